package field_test

import (
	"slices"
	"testing"

	"vitrine/api"
	"vitrine/field"
	"vitrine/space"
)

// wantNext and wantPrev look at the first positions in order.
func wantNext(firsts []int, n int) int {
	if len(firsts) == 0 {
		return -1
	}
	for _, p := range firsts {
		if p > n {
			return p
		}
	}
	return firsts[0]
}

func wantPrev(firsts []int, n int) int {
	want := -1
	for _, p := range firsts {
		if p < n {
			want = p
		}
	}
	if want < 0 && len(firsts) > 0 {
		want = firsts[len(firsts)-1]
	}
	return want
}

// P13.2: forward and backward from each position, also around the screen and back to itself.
func TestNextAndPrev(t *testing.T) {
	each(t, func(l layout, s *space.Space) {
		firsts := l.firsts()
		for _, n := range l.numbers() {
			if got, want := field.Next(s, n), wantNext(firsts, l.wrap(n)); got != want {
				t.Fatalf("%d: Next(%d) is %d, want %d", l.at, n, got, want)
			}
			if got, want := field.Prev(s, n), wantPrev(firsts, l.wrap(n)); got != want {
				t.Fatalf("%d: Prev(%d) is %d, want %d", l.at, n, got, want)
			}
		}
	})
}

// P13.2 with fixed answers.
func TestNextAndPrevExamples(t *testing.T) {
	for _, c := range []struct {
		l             layout
		n, next, prev int
	}{
		{make24(), 0, -1, -1},
		{make24(700, 0x20), 701, -1, -1},
		{make24(700, 0), 700, 701, 701},
		{make24(700, 0), 701, 701, 701},
		{make24(700, 0), 702, 701, 701},
		{make24(1919, 0), 0, 0, 0},
		{make24(1919, 0), 1919, 0, 0},
		{make24(1918, 0), 1918, 1919, 1919},
		{make24(0, 0), 0, 1, 1},
		{make24(0, 0, 1, 0x20), 0, -1, -1},
		{make24(0, 0x20, 1919, 0), 5, -1, -1},
		{make24(0, 0, 1, 0, 2, 0), 0, 3, 3},
		{make24(0, 0, 10, 0x20, 20, 0), 1, 21, 21},
		{make24(0, 0, 10, 0x20, 20, 0), 2, 21, 1},
		{make24(0, 0, 10, 0x20, 20, 0), 11, 21, 1},
		{make24(0, 0, 10, 0x20, 20, 0), 20, 21, 1},
		{make24(0, 0, 10, 0x20, 20, 0), 21, 1, 1},
		{make24(0, 0, 10, 0x20, 20, 0), 22, 1, 21},
		{make24(0, 0x10, 10, 0x0c), 0, 1, 11},
		{make24(0, 0x1d, 10, 0x3d), 11, 1, 1},
		{everywhere(0), 9, -1, -1},
	} {
		s := c.l.screen(t)
		if next, prev := field.Next(s, c.n), field.Prev(s, c.n); next != c.next || prev != c.prev {
			t.Errorf("%d: from %d Next is %d, Prev is %d; want %d, %d", c.l.at, c.n, next, prev, c.next, c.prev)
		}
	}
}

// P13.2: where the operator may write.
func TestOpen(t *testing.T) {
	each(t, func(l layout, s *space.Space) {
		for _, n := range l.numbers() {
			at := l.wrap(n)
			i := l.index(at)
			want := i < 0 || l.at[i] != at && !l.protected(i)
			if got := field.Open(s, n); got != want {
				t.Fatalf("%d: Open(%d) is %v", l.at, n, got)
			}
		}
	})
}

// P13.2: of a field attribute only its protection counts.
func TestOpenOfEachAttribute(t *testing.T) {
	s, _ := space.New(2)
	for b := range 64 {
		s.Set(80, api.Cell{Attr: true, FA: byte(b)})
		open := b&0x20 == 0
		if field.Open(s, 80) || field.Open(s, 81) != open || field.Open(s, 79) != open {
			t.Errorf("%x: Open is %v, %v, %v", b, field.Open(s, 80), field.Open(s, 81), field.Open(s, 79))
		}
		want := -1
		if open {
			want = 81
		}
		if field.Next(s, 500) != want || field.Prev(s, 500) != want {
			t.Errorf("%x: Next is %d, Prev is %d", b, field.Next(s, 500), field.Prev(s, 500))
		}
	}
}

// P13.2: Next goes through all first positions and back to where it began, and Prev does so backward.
func TestNextAndPrevGoAround(t *testing.T) {
	each(t, func(l layout, s *space.Space) {
		firsts := l.firsts()
		var forward, backward []int
		for n := l.cells - 1; len(forward) < len(firsts); {
			n = field.Next(s, n)
			forward = append(forward, n)
		}
		for n := 0; len(backward) < len(firsts); {
			n = field.Prev(s, n)
			backward = append(backward, n)
		}
		slices.Reverse(backward)
		if !slices.Equal(forward, firsts) || !slices.Equal(backward, firsts) {
			t.Errorf("%d: forward %d, backward %d, want %d", l.at, forward, backward, firsts)
		}
	})
}
