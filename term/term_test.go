package term_test

import (
	"slices"
	"testing"

	"vitrine/api"
	"vitrine/keys"
	"vitrine/term"
)

// P23.1: New of each model and page.
func TestNew(t *testing.T) {
	for model := range sizes {
		for _, number := range pages {
			x := newTerm(t, model, number)
			checkState(t, "new", x, usual(model, number))
			checkScreen(t, "new", x, newScreen(t, model, false, nil, 0))
			if p := x.Page(); p.Number() != number {
				t.Errorf("the page is %d, want %d", p.Number(), number)
			}
			checkCounts(t, "new", x, 0, 0, 0, 0, 0, 0)
			if l := x.Tally().Names(); !slices.Equal(l, names) {
				t.Errorf("the counters are %q", l)
			}
		}
	}
}

// P23.1: models and pages that there are not, one of them or both.
func TestNewOfWrongNumbers(t *testing.T) {
	expect := func(model, number int) {
		t.Helper()
		if x, e := term.New(model, number); x != nil || e != api.ErrNone {
			t.Errorf("New(%d, %d): %v, %d", model, number, x, e)
		}
	}
	for _, wrong := range wrongNumbers {
		expect(wrong, 37)
		expect(wrong, 1140)
		expect(2, wrong)
		expect(5, wrong)
		for _, other := range wrongNumbers {
			expect(wrong, other)
		}
	}
	for number := -1500; number <= 1500; number++ {
		if x, e := term.New(3, number); (e == api.OK) != slices.Contains(pages, number) || (x == nil) != (e == api.ErrNone) {
			t.Errorf("New(3, %d): %v, %d", number, x, e)
		}
		if x, e := term.New(number, 500); (e == api.OK) != (number >= 2 && number <= 5) || (x == nil) != (e == api.ErrNone) {
			t.Errorf("New(%d, 500): %v, %d", number, x, e)
		}
	}
}

// P23.1: two new terminals have nothing in common.
func TestNewOnes(t *testing.T) {
	x, y := newTerm(t, 2, 37), newTerm(t, 2, 37)
	hostSends(t, x, "\xf1\xc4\xc1", api.OK)
	press(t, x, keys.Key{Kind: keys.Insert}, "", api.OK)
	checkState(t, "the other one", y, usual(2, 37))
	checkScreen(t, "the other one", y, newScreen(t, 2, false, nil, 0))
	checkCounts(t, "the other one", y, 0, 0, 0, 0, 0, 0)
}

// The chapter's example.
func TestExample(t *testing.T) {
	x := newTerm(t, 2, 37)
	hostSends(t, x, "\xf5\xc3\x11\x40\x40\x1d\x40\x13", api.OK)
	types(t, x, "A", 1, api.OK)
	press(t, x, keys.Key{Kind: keys.Enter}, "\x7d\x40\xc2\x11\x40\xc1\xc1", api.OK)
	press(t, x, keys.Key{Kind: keys.Enter}, "", api.ErrLocked)
	types(t, x, "B", 0, api.ErrLocked)
	hostSends(t, x, "\xf1\x41", api.OK)
	types(t, x, "B", 0, api.ErrLocked)
	hostSends(t, x, "\xf1\x42", api.OK)
	types(t, x, "B", 1, api.OK)
	press(t, x, keys.Key{Kind: keys.Enter}, "\x7d\x40\xc3\x11\x40\xc1\xc1\xc2", api.OK)
}

// P23.2: each part of the state by itself.
func TestState(t *testing.T) {
	x := newTerm(t, 4, 273)
	want := usual(4, 273)
	step := func(what string) {
		t.Helper()
		checkState(t, what, x, want)
	}
	hostSends(t, x, "\x7e", api.OK)
	want.Alt = true
	step("the alternate size")
	press(t, x, keys.Key{Kind: keys.Left}, "", api.OK)
	want.Cursor = 3439
	step("the cursor")
	press(t, x, keys.Key{Kind: keys.Insert}, "", api.OK)
	want.Inserts = true
	step("the insert mode")
	for mode := range 3 {
		hostSends(t, x, "\xf3"+modeField(byte(mode)), api.OK)
		want.Mode = mode
		step("the reply mode")
	}
	press(t, x, keys.Key{Kind: keys.Delete}, "", api.OK)
	step("no error")
	press(t, x, keys.Key{Kind: keys.Select}, "", api.ErrProtect)
	want.Lock = 2
	step("the lock")
	press(t, x, keys.Key{Kind: keys.Reset}, "", api.OK)
	want.Lock, want.Inserts = 0, false
	step("reset")
	press(t, x, keys.Key{Kind: keys.PA, N: 2}, "\x6e", api.OK)
	want.Lock, want.AID = 1, 0x6e
	step("the AID")
	hostSends(t, x, "\xf5", api.OK)
	want.Alt, want.Cursor = false, 0
	step("the default size")
}

// P23.2: the locks that a key can bring about.
func TestLocks(t *testing.T) {
	x := newTerm(t, 2, 37)
	// A numeric field of one position, and a protected one.
	hostSends(t, x, "\xf5\x40\x1d\x50\x13\x00\x1d\x60", api.OK)
	for lock, e := range []api.Errno{2: api.ErrProtect, 3: api.ErrNumeric, 4: api.ErrFull} {
		y := x.Copy()
		switch lock {
		case 2:
			press(t, y, keys.Key{Kind: keys.Right}, "", api.OK)
			types(t, y, "1", 0, e)
		case 3:
			types(t, y, "A", 0, e)
		case 4:
			types(t, y, "1", 1, api.OK)
			press(t, y, keys.Key{Kind: keys.Tab}, "", api.OK)
			press(t, y, keys.Key{Kind: keys.Insert}, "", api.OK)
			types(t, y, "2", 0, e)
		default:
			continue
		}
		if s := y.State(); s.Lock != lock {
			t.Errorf("the lock is %d, want %d", s.Lock, lock)
		}
		types(t, y, "1", 0, api.ErrLocked)
	}
}

// P23.2: the page is the terminal's, and so are the counters, for whoever asks.
func TestOwnObjects(t *testing.T) {
	x := newTerm(t, 2, 500)
	if p := x.Page(); p != x.Page() || p.Number() != 500 {
		t.Errorf("the page is %d", p.Number())
	}
	if x.Tally() != x.Tally() {
		t.Error("the counters are others when asked again")
	}
	c := x.Tally()
	hostSends(t, x, "\xf1", api.OK)
	if n := c.Get("records"); n != 1 {
		t.Errorf("the counters that were given out have %d records", n)
	}
	c.Reset()
	checkCounts(t, "reset", x, 0, 0, 0, 0, 0, 0)
	hostSends(t, x, "\x99", api.ErrCommand)
	checkCounts(t, "after the reset", x, 0, 0, 0, 1, 0, 1)
}

// P23.2: a screen that was given out is a copy.
func TestScreenIsCopy(t *testing.T) {
	x := busy(t, 3)
	s := x.Screen()
	s.Set(0, field(0x3d))
	s.Put(1, 0x99)
	s.Place(77)
	checkBusy(t, "the copy was changed", x)
	s.Clear(false)
	checkBusy(t, "the copy was cleared", x)
	before := x.Screen()
	hostSends(t, x, "\xf5\xc3\xc5", api.OK)
	types(t, x, "abc", 3, api.OK)
	if !before.Same(busyScreen(t, 3)) {
		t.Error("a screen that was given out has changed with the terminal")
	}
	if x.Screen() == x.Screen() {
		t.Error("the same screen is given out twice")
	}
}

// P23.2, P1 and the rules: every method of a nil terminal.
func TestNil(t *testing.T) {
	var x *term.Term
	for _, record := range [][]byte{nil, {}, {0xf1, 0xc7, 0xc1}, {0xf2}, {0x99}, []byte("\xf3" + queryField)} {
		if l, e := x.Host(record); l != nil || e != api.ErrNone {
			t.Errorf("Host(%x): %x, %d", record, l, e)
		}
	}
	for kind := -1; kind <= keys.Clear+1; kind++ {
		for n := range 3 {
			if p, e := x.Key(keys.Key{Kind: kind, N: n}); p != nil || e != api.ErrNone {
				t.Errorf("Key of the kind %d: %x, %d", kind, p, e)
			}
		}
	}
	for _, text := range []string{"", "A", "\xff"} {
		if n, e := x.Type(text); n != 0 || e != api.ErrNone {
			t.Errorf("Type(%q): %d, %d", text, n, e)
		}
	}
	if s := x.State(); s != (term.State{}) {
		t.Errorf("State: %+v", s)
	}
	if x.Screen() != nil || x.Page() != nil || x.Tally() != nil || x.Copy() != nil {
		t.Errorf("Screen, Page, Tally, Copy: %v, %v, %v, %v", x.Screen(), x.Page(), x.Tally(), x.Copy())
	}
	y := newTerm(t, 2, 37)
	if !x.Same(nil) || x.Same(y) || y.Same(x) || y.Same(nil) {
		t.Errorf("Same: %t, %t, %t, %t", x.Same(nil), x.Same(y), y.Same(x), y.Same(nil))
	}
}
