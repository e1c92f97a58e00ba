package cursor_test

import (
	"math"
	"slices"
	"testing"

	"vitrine/cursor"
	"vitrine/space"
)

// P15.1: to the next and to the previous first position, around the screen, and to 0 if there is none.
func TestTab(t *testing.T) {
	eachMove(t, cursor.Tab, sample.next)
}

func TestBackTab(t *testing.T) {
	eachMove(t, cursor.BackTab, sample.prev)
}

// first is where the cursor may be from n on.
func (c sample) first(firsts []int, n int) int {
	if c.open(n) {
		return n
	}
	return c.next(firsts, n)
}

// P15.1: the first position of the next row, or what follows it; the first row is next to the last one.
func TestNewLine(t *testing.T) {
	eachMove(t, cursor.NewLine, func(c sample, firsts []int, n int) int {
		return c.first(firsts, (n/c.cols+1)%c.rows*c.cols)
	})
}

// P15.1: the first position of the screen, or what follows it.
func TestHome(t *testing.T) {
	eachMove(t, cursor.Home, func(c sample, firsts []int, n int) int {
		return c.first(firsts, 0)
	})
}

// P15.1: each position by any number; nothing moves.
func TestFirst(t *testing.T) {
	for _, c := range samples() {
		s, firsts := c.screen(t), c.firsts()
		s.Place(9)
		before := s.Copy()
		for _, n := range c.numbers() {
			want := c.first(firsts, c.wrap(n))
			if got := cursor.First(s, n); got != want {
				t.Fatalf("attributes at %d: First(%d) is %d, want %d", c.at, n, got, want)
			}
		}
		if !s.Same(before) {
			t.Errorf("attributes at %d: First changes the screen", c.at)
		}
	}
}

// P15.1: by columns around the screen, and then by rows around the column, whatever there is.
func TestMove(t *testing.T) {
	for _, by := range [][2]int{
		{0, 0}, {0, 1}, {0, -1}, {1, 0}, {-1, 0}, {1, 1}, {-1, -1}, {3, -200}, {0, 80}, {0, 132}, {24, 0}, {27, 0}, {-30, 5000}, {1000, -100000},
	} {
		move := func(s *space.Space) { cursor.Move(s, by[0], by[1]) }
		eachMove(t, move, func(c sample, _ []int, n int) int {
			n = c.wrap(n + by[1])
			return c.wrap(n + by[0]*c.cols)
		})
	}
}

// P15.1: the greatest numbers. The remainders of 2^63 - 1 are 7 by 24 and 127 by 1920, those of -2^63 are 16 and 1792.
func TestMoveFar(t *testing.T) {
	s := lay(24, 80, 0, 0x30).screen(t)
	for _, c := range []struct{ rows, cols, want int }{
		{math.MaxInt, 0, 5 + 7*80}, {0, math.MaxInt, 5 + 127}, {math.MinInt, 0, 5 + 16*80}, {0, math.MinInt, 5 + 1792},
		{math.MaxInt, math.MaxInt, 5 + 127 + 7*80}, {math.MinInt, math.MinInt, (5 + 1792 + 16*80) % 1920},
	} {
		s.Place(5)
		cursor.Move(s, c.rows, c.cols)
		if s.Cursor() != c.want {
			t.Errorf("Move(%d, %d) goes to %d, want %d", c.rows, c.cols, s.Cursor(), c.want)
		}
	}
}

// P15.2: on by one; at an attribute on by another one, or, if its field is skipped, to the next first position.
func TestAfter(t *testing.T) {
	eachMove(t, cursor.After, func(c sample, firsts []int, n int) int {
		n = c.wrap(n + 1)
		bits, attribute := c.bits[n]
		switch {
		case !attribute:
			return n
		case bits&0x30 == 0x30:
			return c.next(firsts, n)
		}
		return c.wrap(n + 1)
	})
}

// going are a movement's fixed answers: from where to where.
type going struct {
	name  string
	move  func(s *space.Space)
	pairs []int
	goes  map[int]int
}

// P15.1 and P15.2 with fixed answers.
func TestExamples(t *testing.T) {
	for _, c := range []going{
		// The chapter's examples.
		{"Tab", cursor.Tab, []int{0, 0x30, 5, 0}, map[int]int{3: 6, 5: 6, 6: 6, 1919: 6}},
		{"After", cursor.After, []int{0, 0x30, 5, 0, 10, 0x30, 20, 0}, map[int]int{8: 9, 9: 21, 1918: 1919, 1919: 6}},
		// No field, none that is unprotected, and none with a position.
		{"Tab", cursor.Tab, nil, map[int]int{0: 0, 7: 0, 1919: 0}},
		{"Tab", cursor.Tab, []int{3, 0x20, 9, 0x30}, map[int]int{0: 0, 7: 0, 1919: 0}},
		{"Tab", cursor.Tab, []int{3, 0, 4, 0x20}, map[int]int{0: 0, 3: 0, 9: 0}},
		{"BackTab", cursor.BackTab, nil, map[int]int{0: 0, 7: 0, 1919: 0}},
		{"BackTab", cursor.BackTab, []int{3, 0x20, 9, 0x30}, map[int]int{0: 0, 7: 0, 1919: 0}},
		{"After", cursor.After, []int{3, 0x30, 9, 0x30}, map[int]int{2: 0, 8: 0, 1: 2}},
		{"After", cursor.After, nil, map[int]int{0: 1, 79: 80, 1919: 0}},
		{"NewLine", cursor.NewLine, nil, map[int]int{0: 80, 79: 80, 80: 160, 1839: 1840, 1840: 0, 1919: 0}},
		{"NewLine", cursor.NewLine, []int{3, 0x20, 9, 0x30}, map[int]int{0: 0, 100: 0}},
		{"Home", cursor.Home, nil, map[int]int{0: 0, 700: 0}},
		{"Home", cursor.Home, []int{3, 0x20, 9, 0x30}, map[int]int{0: 0, 700: 0}},
		// Tabs from a field's first position, from within it and from its attribute.
		{"Tab", cursor.Tab, []int{4, 0, 9, 0x20, 90, 0}, map[int]int{4: 5, 5: 91, 7: 91, 9: 91, 90: 91, 91: 5, 95: 5}},
		{"BackTab", cursor.BackTab, []int{4, 0, 9, 0x20, 90, 0}, map[int]int{4: 91, 5: 91, 6: 5, 9: 5, 90: 5, 91: 5, 92: 91}},
		// A first position at 0, and one at the end.
		{"Tab", cursor.Tab, []int{-1, 0, 5, 0x20, -3, 0, 1918, 0x20}, map[int]int{0: 0, 1918: 0, 1919: 0}},
		{"Tab", cursor.Tab, []int{1918, 0, 5, 0x20}, map[int]int{0: 1919, 1918: 1919, 1919: 1919}},
		{"BackTab", cursor.BackTab, []int{-1, 0, 5, 0, 9, 0x20}, map[int]int{0: 6, 1: 0, 6: 0, 7: 6}},
		// Rows that begin with an attribute, in a protected field and in an unprotected one.
		{"NewLine", cursor.NewLine, []int{80, 0, 150, 0x20, 250, 0, 300, 0x30}, map[int]int{0: 81, 79: 81, 80: 251, 170: 251, 250: 81, 1900: 81}},
		{"NewLine", cursor.NewLine, []int{70, 0, 170, 0x20}, map[int]int{5: 80, 81: 160, 165: 71}},
		{"Home", cursor.Home, []int{0, 0, 9, 0x20}, map[int]int{0: 1, 5: 1, 1919: 1}},
		{"Home", cursor.Home, []int{1900, 0, 9, 0x20}, map[int]int{0: 0, 5: 0}},
		{"Home", cursor.Home, []int{1900, 0x20, 9, 0}, map[int]int{0: 10, 5: 10}},
		// After a character, attributes that are protected, numeric, skipped, and next to each other.
		{"After", cursor.After, []int{0, 0, 5, 0x20, 10, 0x10, 15, 0}, map[int]int{4: 6, 9: 11, 14: 16, 3: 4, 1919: 1}},
		{"After", cursor.After, []int{0, 0, 5, 0, 6, 0, 7, 0}, map[int]int{4: 6, 5: 7, 6: 8}},
		{"After", cursor.After, []int{0, 0, 5, 0, 6, 0x30, 7, 0}, map[int]int{4: 6, 5: 8, 6: 8}},
		{"After", cursor.After, []int{0, 0, 5, 0x30, 6, 0, 7, 0x3d}, map[int]int{4: 1, 6: 1}},
		{"After", cursor.After, []int{-1, 0x20, 0, 0x30, 3, 0}, map[int]int{1918: 0, 1919: 4}},
	} {
		s := lay(24, 80, c.pairs...).screen(t)
		for from, to := range c.goes {
			s.Place(from)
			c.move(s)
			if s.Cursor() != to {
				t.Errorf("attributes %d: %s goes from %d to %d, want %d", c.pairs, c.name, from, s.Cursor(), to)
			}
		}
	}
}

// P15.2: whether a field is skipped hangs on its two bits alone.
func TestAfterEachAttribute(t *testing.T) {
	for bits := range 64 {
		s := lay(24, 80, 0, 0, 10, bits, 20, 0).screen(t)
		s.Place(9)
		cursor.After(s)
		want := 11
		if bits&0x30 == 0x30 {
			want = 21
		}
		if s.Cursor() != want {
			t.Errorf("%x: the cursor goes to %d, want %d", bits, s.Cursor(), want)
		}
	}
}

// P15.1 to P15.3: a nil space has no cursor.
func TestNil(t *testing.T) {
	var s *space.Space
	for _, move := range []func(s *space.Space){cursor.Tab, cursor.BackTab, cursor.NewLine, cursor.Home, cursor.After} {
		move(s)
	}
	for _, n := range []int{0, 1, -1, 80, 1920, math.MaxInt, math.MinInt} {
		cursor.Move(s, n, 0)
		cursor.Move(s, 0, n)
		if got := cursor.First(s, n); got != 0 {
			t.Errorf("First(%d) is %d", n, got)
		}
	}
	if l := slices.Collect(cursor.Tabs(s)); len(l) != 0 || cursor.Index(s) != -1 {
		t.Errorf("Tabs yields %d, Index is %d", l, cursor.Index(s))
	}
}
