package erase_test

import (
	"math"
	"slices"
	"testing"

	"vitrine/api"
	"vitrine/erase"
	"vitrine/field"
	"vitrine/space"
)

// null sets the characters of those positions to 0 that are unprotected; attributes have none.
func (c sample) null(positions []int) {
	unprotected := c.unprotected()
	for _, n := range positions {
		if unprotected[n] {
			c[n].Char = 0
		}
	}
}

// span lists the positions from one number up to another, all if both are the same position.
func (c sample) span(from, to int) []int {
	var l []int
	for n := c.wrap(from); len(l) == 0 || n != c.wrap(to); n = c.wrap(n + 1) {
		l = append(l, n)
	}
	return l
}

// P14.1: unprotected positions are nulled, their fields are not modified, and the cursor goes to the first of them; everything else stays.
func TestUnprotected(t *testing.T) {
	each(t, func(c sample) {
		s := c.screen(t)
		erase.Unprotected(s)
		want, cursor := slices.Clone(c), 0
		want.null(c.span(0, 0))
		unprotected := c.unprotected()
		for n := len(c) - 1; n >= 0; n-- {
			switch {
			case !unprotected[n]:
			case c[n].Attr:
				want[n].FA &^= 1
			case c[c.wrap(n-1)].Attr:
				cursor = n
			}
		}
		want.check(t, s, cursor, "Unprotected")
		erase.Unprotected(s)
		want.check(t, s, cursor, "Unprotected again")
	})
}

// P14.1 with fixed answers: where the cursor goes, and which fields stay modified.
func TestUnprotectedExamples(t *testing.T) {
	for _, c := range []struct {
		pairs    []int
		cursor   int
		modified []int
		nulls    int
	}{
		{nil, 0, nil, 1920},
		{[]int{0, 1}, 1, nil, 1919},
		{[]int{-1, 1}, 0, nil, 1919},
		{[]int{700, 0x0d}, 701, nil, 1919},
		{[]int{700, 0x21}, 0, []int{700}, 0},
		{[]int{0, 0x21, 10, 0x31, 20, 0x20}, 0, []int{0, 10}, 0},
		{[]int{0, 0x21, 10, 1, 20, 0x30, 30, 0x11}, 11, []int{0}, 9 + 1889},
		{[]int{5, 1, 8, 0x20, -2, 1}, 6, nil, 2 + 1 + 5},
		{[]int{0, 0x20, 3, 1, 4, 0x21}, 0, []int{4}, 0},
		{[]int{0, 1, 1, 1, 2, 0x21, -1, 1}, 0, []int{2}, 0},
		{[]int{0, 0x21, -2, 1}, 1919, []int{0}, 1},
	} {
		s := lay(narrow, fills()[1], c.pairs...).screen(t)
		erase.Unprotected(s)
		nulls := 0
		for _, cell := range s.All() {
			if !cell.Attr && cell.Char == 0 {
				nulls++
			}
		}
		modified := slices.Collect(field.Modified(s))
		if s.Cursor() != c.cursor || !slices.Equal(modified, c.modified) || nulls != c.nulls {
			t.Errorf("%d: the cursor is at %d, %d are modified, %d are null", c.pairs, s.Cursor(), modified, nulls)
		}
	}
}

// ranges are pairs of numbers: within the screen and around it, one or all positions, below 0 and beyond.
func (c sample) ranges() [][2]int {
	last := len(c) - 1
	return [][2]int{
		{0, 0}, {0, 1}, {0, last}, {last, 0}, {last, last}, {last, 1}, {1, 0}, {5, 5}, {3, 900}, {900, 3}, {78, 161},
		{702, 699}, {699, 702}, {700, 701}, {-1, 0}, {-3, 3}, {-10, -3}, {3, -3}, {last + 1, last + 9}, {-len(c), len(c)}, {5 * len(c), 7},
		{math.MaxInt, math.MinInt}, {math.MinInt, math.MaxInt}, {math.MinInt, math.MinInt}, {math.MaxInt, 0}, {1 << 40, 4},
	}
}

// P14.1: Range nulls the unprotected ones of its positions alone, and marks nothing.
func TestRange(t *testing.T) {
	each(t, func(c sample) {
		for _, r := range c.ranges() {
			s := c.screen(t)
			erase.Range(s, r[0], r[1])
			want := slices.Clone(c)
			want.null(c.span(r[0], r[1]))
			want.check(t, s, 1234, "Range", r)
		}
	})
}

// P14.1 with fixed answers: what is left of a text of one kind of character.
func TestRangeExamples(t *testing.T) {
	for _, c := range []struct {
		pairs    []int
		from, to int
		want     []int
	}{
		{nil, 3, 6, []int{3, 4, 5}},
		{nil, 1918, 1, []int{0, 1918, 1919}},
		{[]int{4, 0x20}, 3, 6, nil},
		{[]int{4, 0}, 3, 6, []int{3, 5}},
		{[]int{0, 0x20, 4, 0}, 3, 6, []int{5}},
		{[]int{0, 0, 4, 0x20}, 3, 6, []int{3}},
		{[]int{0, 0x20, 4, 0}, 2, 4, nil},
		{[]int{0, 0x20, 4, 0}, 4, 5, nil},
		{[]int{1917, 0, 2, 0x20}, 1916, 5, []int{0, 1, 1918, 1919}},
		{[]int{1917, 0, 2, 0x20}, -2, -1, []int{1918}},
		{[]int{1917, 0, 2, 0x20}, 0, 1918, []int{0, 1}},
		{[]int{1917, 0, 2, 0x20}, 1921, 3840, []int{1, 1918, 1919}},
		{[]int{10, 0, 11, 0, 14, 0, 15, 0x20}, 9, 17, []int{12, 13}},
	} {
		s := lay(narrow, fills()[1], c.pairs...).screen(t)
		before := s.Copy()
		erase.Range(s, c.from, c.to)
		if got := before.Diff(s); !slices.Equal(got, c.want) {
			t.Errorf("%d: Range(%d, %d) changes %d, want %d", c.pairs, c.from, c.to, got, c.want)
		}
	}
}

// P14.1: Repeat sets each position to the cell, attributes and protected positions too, as Set does.
func TestRepeat(t *testing.T) {
	type repeated struct{ given, want api.Cell }
	each(t, func(c sample) {
		for i, r := range c.ranges() {
			one := []repeated{
				{api.Cell{Char: 0xc1, FA: 0x20, High: 0xf1}, api.Cell{Char: 0xc1, High: 0xf1}},
				{api.Cell{}, api.Cell{}},
				{api.Cell{Attr: true, FA: 0xff, Char: 0xc1, Color: 0xf2}, api.Cell{Attr: true, FA: 0x3d, Color: 0xf2}},
				{api.Cell{Char: 0xad, Set: 0xf1}, api.Cell{Char: 0xad, Set: 0xf1}},
			}[i%4]
			s := c.screen(t)
			want, positions := slices.Clone(c), c.span(r[0], r[1])
			for _, n := range positions {
				want[n] = one.want
			}
			if got := erase.Repeat(s, r[0], r[1], one.given); got != len(positions) {
				t.Fatalf("Repeat(%d, %d) is %d, want %d", r[0], r[1], got, len(positions))
			}
			want.check(t, s, 1234, "Repeat", r, one)
		}
	})
}

// P14.1 with fixed answers: how many positions are set.
func TestRepeatExamples(t *testing.T) {
	for _, c := range []struct{ from, to, want int }{
		{0, 1, 1}, {0, 0, 1920}, {1919, 1919, 1920}, {1919, 0, 1}, {1918, 1, 3}, {5, 4, 1919}, {-1, 1, 2}, {0, 1920, 1920}, {1, 1919, 1918}, {3840, 3, 3},
	} {
		s := lay(narrow, fills()[0], 0, 0x20).screen(t)
		if got := erase.Repeat(s, c.from, c.to, api.Cell{Char: 0xc1}); got != c.want {
			t.Errorf("Repeat(%d, %d) is %d, want %d", c.from, c.to, got, c.want)
		}
	}
}

// P14.2: the null positions of a field, and nothing where there is no attribute.
func TestNulls(t *testing.T) {
	each(t, func(c sample) {
		s := c.screen(t)
		for _, n := range c.numbers() {
			want := 0
			if p := c.wrap(n); c[p].Attr {
				for _, code := range c.codes(c.rest(c.wrap(p + 1))) {
					if code == 0 {
						want++
					}
				}
			}
			if got := erase.Nulls(s, n); got != want {
				t.Fatalf("attributes at %d: Nulls(%d) is %d, want %d", c.attrs(), n, got, want)
			}
		}
		c.check(t, s, 1234, "Nulls")
	})
}

// P14.2 with fixed answers: of a field around the screen, of a protected one and of one without positions.
func TestNullsExamples(t *testing.T) {
	s := lay(narrow, fills()[0], 2, 0x20, 6, 0, 7, 0, 1917, 0x01).screen(t)
	s.Put(4, 0xc1)
	s.Put(1919, 0x40)
	for n, want := range map[int]int{2: 2, 3: 0, 6: 0, 7: 1909, 1917: 3, -3: 3, 1918: 0, 1922: 2} {
		if got := erase.Nulls(s, n); got != want {
			t.Errorf("Nulls(%d) is %d, want %d", n, got, want)
		}
	}
}

// P14.1, P14.2: a nil space has nothing to erase.
func TestNil(t *testing.T) {
	var s *space.Space
	erase.Unprotected(s)
	for _, n := range []int{0, 1, -1, 80, 1920, math.MaxInt, math.MinInt} {
		erase.Range(s, 0, n)
		erase.Range(s, n, n)
		if erase.Repeat(s, 0, n, api.Cell{Char: 0xc1}) != 0 || erase.Repeat(s, n, n, api.Cell{Attr: true}) != 0 || erase.Nulls(s, n) != 0 {
			t.Errorf("%d: Repeat is %d, Nulls is %d", n, erase.Repeat(s, 0, n, api.Cell{}), erase.Nulls(s, n))
		}
		if erase.End(s, n) || erase.Delete(s, n) || erase.Insert(s, n, 0xc1) || erase.Insert(s, n, 0) {
			t.Errorf("%d: a nil space was changed", n)
		}
		if l := slices.Collect(erase.Row(s, n)); len(l) != 0 {
			t.Errorf("%d: Row yields %d", n, l)
		}
	}
}
