package tally_test

import (
	"math"
	"slices"
	"strconv"
	"strings"
	"sync"
	"testing"

	"vitrine/api"
	"vitrine/tally"
)

func open(t *testing.T, names ...string) *tally.Tally {
	t.Helper()
	x, e := tally.New(names...)
	if e != api.OK || x == nil {
		t.Fatalf("New(%q): %v, %d", names, x, e)
	}
	return x
}

// many returns n different names.
func many(n int) []string {
	var names []string
	for i := range n {
		names = append(names, "n"+strconv.Itoa(i))
	}
	return names
}

// told returns what All yields, such as "a=2 b=0".
func told(x *tally.Tally) string {
	var words []string
	for name, n := range x.All() {
		words = append(words, name+"="+strconv.FormatUint(n, 10))
	}
	return strings.Join(words, " ")
}

func check(t *testing.T, x *tally.Tally, want string) {
	t.Helper()
	if got := told(x); got != want {
		t.Errorf("the counters are %q, want %q", got, want)
	}
}

// P3.1: what New accepts, up to the limits.
func TestNew(t *testing.T) {
	check(t, open(t, "b", "a"), "a=0 b=0")
	check(t, open(t), "")
	longest := strings.Repeat("x", api.MaxName)
	check(t, open(t, longest), longest+"=0")
	open(t, strings.Repeat("ä", api.MaxName/2))
	open(t, "\xff", " ", "\x00")
	if x := open(t, many(api.MaxTally)...); len(x.Names()) != 64 {
		t.Errorf("%d names", len(x.Names()))
	}
}

// P3.1: the errors of New, and their order where several apply.
func TestNewErrors(t *testing.T) {
	long := strings.Repeat("x", api.MaxName+1)
	for _, c := range []struct {
		names []string
		want  api.Errno
	}{
		{many(65), api.ErrLong},
		{make([]string, 65), api.ErrLong},
		{append(many(64), "n0"), api.ErrLong},
		{append(many(64), long), api.ErrLong},
		{[]string{""}, api.ErrForm},
		{[]string{"a", ""}, api.ErrForm},
		{[]string{long}, api.ErrForm},
		{[]string{strings.Repeat("ä", 21)}, api.ErrForm},
		{[]string{"a", "a", ""}, api.ErrForm},
		{[]string{"", ""}, api.ErrForm},
		{[]string{"a", "a", long}, api.ErrForm},
		{[]string{long, long}, api.ErrForm},
		{make([]string, 64), api.ErrForm},
		{[]string{"a", "a"}, api.ErrArg},
		{[]string{"a", "b", "c", "a"}, api.ErrArg},
		{append(many(63), "n0"), api.ErrArg},
	} {
		if x, e := tally.New(c.names...); e != c.want || x != nil {
			t.Errorf("New(%q): %v, %d, want %d", c.names, x, e, c.want)
		}
	}
}

// P3.1 and P3.2: adding and asking.
func TestAddAndGet(t *testing.T) {
	x := open(t, "b", "a", "c")
	if !x.Add("a", 2) || !x.Add("c", 5) || !x.Add("a", 3) || !x.Add("b", 0) {
		t.Error("Add of a counter is false")
	}
	check(t, x, "a=5 b=0 c=5")
	if x.Get("a") != 5 || x.Get("b") != 0 || x.Get("c") != 5 {
		t.Error("Get")
	}
	for _, name := range []string{"", "d", "A", "aa", "\xff", strings.Repeat("x", 100)} {
		if x.Add(name, 1) || x.Get(name) != 0 {
			t.Errorf("there is a counter %q", name)
		}
	}
	check(t, x, "a=5 b=0 c=5")
}

// P3.1: the counters wrap round at 2^64.
func TestAddWraps(t *testing.T) {
	x := open(t, "a")
	x.Add("a", math.MaxUint64)
	check(t, x, "a=18446744073709551615")
	x.Add("a", 1)
	check(t, x, "a=0")
	x.Add("a", 7)
	x.Add("a", math.MaxUint64-1)
	check(t, x, "a=5")
}

// P3.1: Most raises a counter and never lowers it.
func TestMost(t *testing.T) {
	x := open(t, "a", "b")
	for _, c := range []struct{ n, want uint64 }{
		{0, 0}, {3, 3}, {2, 3}, {3, 3}, {4, 4}, {0, 4}, {math.MaxUint64, math.MaxUint64}, {1, math.MaxUint64},
	} {
		if !x.Most("a", c.n) || x.Get("a") != c.want || x.Get("b") != 0 {
			t.Errorf("after Most(a, %d): %s", c.n, told(x))
		}
	}
	if x.Most("c", 9) || x.Most("", 9) {
		t.Error("Most of no counter is true")
	}
}

// P3.1: Take empties one counter.
func TestTake(t *testing.T) {
	x := open(t, "a", "b")
	x.Add("a", 7)
	x.Add("b", 8)
	if x.Take("c") != 0 || x.Take("a") != 7 || x.Take("a") != 0 {
		t.Error("Take")
	}
	check(t, x, "a=0 b=8")
}

// P3.1: Reset empties all counters.
func TestReset(t *testing.T) {
	x := open(t, "c", "a", "b")
	for i, name := range x.Names() {
		x.Add(name, uint64(i+1))
	}
	check(t, x, "a=1 b=2 c=3")
	x.Reset()
	check(t, x, "a=0 b=0 c=0")
	x.Add("b", 1)
	check(t, x, "a=0 b=1 c=0")
}

// P3.1: Sum adds all or nothing.
func TestSum(t *testing.T) {
	x, y, z := open(t, "a", "b", "c"), open(t, "c", "a"), open(t, "a", "z")
	x.Add("a", 1)
	x.Add("b", 2)
	y.Add("a", 10)
	y.Add("c", 30)
	z.Add("a", 5)
	if !x.Sum(y) {
		t.Error("Sum is false")
	}
	check(t, x, "a=11 b=2 c=30")
	check(t, y, "a=10 c=30")
	if y.Sum(x) || x.Sum(z) {
		t.Error("Sum of a counter that is not there is true")
	}
	check(t, x, "a=11 b=2 c=30")
	check(t, y, "a=10 c=30")
	check(t, z, "a=5 z=0")
	if !x.Sum(x) {
		t.Error("Sum of itself is false")
	}
	check(t, x, "a=22 b=4 c=60")
	y.Add("a", math.MaxUint64-10)
	if !x.Sum(y) || x.Get("a") != 21 {
		t.Errorf("Sum does not wrap: %s", told(x))
	}
}

// P3.1 and P3.2: a nil other has no counters, and neither has a tally without names.
func TestSumOfNothing(t *testing.T) {
	x := open(t, "a")
	x.Add("a", 3)
	if !x.Sum(nil) || !x.Sum(open(t)) || !open(t).Sum(nil) || open(t).Sum(x) {
		t.Error("Sum of nothing")
	}
	check(t, x, "a=3")
}

// P3.2: the order is that of the names' bytes.
func TestOrder(t *testing.T) {
	x := open(t, "ä", "b", "B", "\xff", "aa", "a", "10", "9", " ")
	want := []string{" ", "10", "9", "B", "a", "aa", "b", "ä", "\xff"}
	if got := x.Names(); !slices.Equal(got, want) {
		t.Errorf("Names: %q", got)
	}
	var got []string
	for name := range x.All() {
		got = append(got, name)
	}
	if !slices.Equal(got, want) {
		t.Errorf("All: %q", got)
	}
	for i, name := range want {
		x.Add(name, uint64(i))
	}
	for i, name := range want {
		if x.Get(name) != uint64(i) {
			t.Errorf("%q is %d, want %d", name, x.Get(name), i)
		}
	}
}

// P3.2 and the rule of iterators: the same each time, and nothing after a stop.
func TestAll(t *testing.T) {
	x := open(t, "c", "a", "b")
	x.Add("b", 2)
	all := x.All()
	for range 2 {
		var names []string
		for name, n := range all {
			names = append(names, name)
			if n != x.Get(name) {
				t.Errorf("%s is %d", name, n)
			}
		}
		if !slices.Equal(names, []string{"a", "b", "c"}) {
			t.Errorf("All: %q", names)
		}
	}
	for stop := range 3 {
		n := 0
		for range all {
			if n++; n > stop {
				break
			}
		}
		if n != stop+1 {
			t.Errorf("%d counters after a stop at %d", n, stop+1)
		}
	}
}

// P2: what All yields hangs on the calls before it alone.
func TestAllIsOfItsTime(t *testing.T) {
	x := open(t, "a", "b")
	x.Add("b", 2)
	before := x.All()
	x.Add("b", 5)
	for name, n := range before {
		if name == "b" && n != 2 {
			t.Errorf("b is %d", n)
		}
	}
	check(t, x, "a=0 b=7")
}

// P3.2 and P1: a nil tally.
func TestNil(t *testing.T) {
	var x *tally.Tally
	if x.Add("a", 1) || x.Add("", 0) || x.Most("a", 1) || x.Most("", 0) || x.Sum(nil) || x.Sum(x) || x.Sum(open(t, "a")) || x.Sum(open(t)) {
		t.Error("true")
	}
	if x.Get("a") != 0 || x.Take("a") != 0 || len(x.Names()) != 0 {
		t.Error("not 0 or nothing")
	}
	x.Reset()
	for name := range x.All() {
		t.Errorf("a counter %q", name)
	}
}

// The rule of memory: neither the names that were given nor those that were returned are shared.
func TestMemory(t *testing.T) {
	names := []string{"b", "a", "spare"}
	x := open(t, names[:2]...)
	if !slices.Equal(names, []string{"b", "a", "spare"}) {
		t.Errorf("the argument became %q", names)
	}
	names[0], names[1] = "x", "y"
	first := x.Names()
	first[0] = "z"
	_ = append(first[:1], "z")
	if got := x.Names(); !slices.Equal(got, []string{"a", "b"}) {
		t.Errorf("Names: %q", got)
	}
	check(t, x, "a=0 b=0")
}

// P2: two tallies with the same names are independent.
func TestTalliesAreIndependent(t *testing.T) {
	x, y := open(t, "a"), open(t, "a")
	x.Add("a", 1)
	check(t, x, "a=1")
	check(t, y, "a=0")
}

// together runs a function in many goroutines at once.
func together(run func(worker int)) {
	var all sync.WaitGroup
	for worker := range 16 {
		all.Go(func() { run(worker) })
	}
	all.Wait()
}

// P3.2: no addition is lost among many goroutines.
func TestConcurrentAddAndTake(t *testing.T) {
	x, taken, part := open(t, "a", "b", "c"), open(t, "a"), open(t, "b")
	part.Add("b", 2)
	together(func(worker int) {
		for i := range 2000 {
			x.Add("a", 3)
			x.Sum(part)
			if i%5 == 0 {
				taken.Add("a", x.Take("a"))
			}
			x.Add("c", 1)
			x.Most("c", 0)
			x.Names()
			told(x)
		}
	})
	if got := x.Get("a") + taken.Get("a"); got != 16*2000*3 {
		t.Errorf("a is %d", got)
	}
	if x.Get("b") != 16*2000*2 || x.Get("c") != 16*2000 {
		t.Error(told(x))
	}
}

// P3.2: the greatest of all wins, and additions beside it are kept.
func TestConcurrentMost(t *testing.T) {
	x := open(t, "most", "both")
	together(func(worker int) {
		for i := range 5000 {
			x.Most("most", uint64(i*16+worker))
			x.Add("both", 1)
			x.Most("both", 1)
		}
	})
	if x.Get("most") != 4999*16+15 || x.Get("both") != 16*5000 {
		t.Error(told(x))
	}
}

// P3.2 and P1: two tallies may be added to each other, and emptied, at the same time.
func TestConcurrentSumBothWays(t *testing.T) {
	x, y := open(t, "a"), open(t, "a")
	x.Add("a", 1)
	together(func(worker int) {
		for range 500 {
			if !x.Sum(y) || !y.Sum(x) || !x.Sum(x) {
				t.Error("Sum is false")
			}
			if worker == 0 {
				x.Reset()
			}
		}
	})
}
