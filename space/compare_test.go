package space_test

import (
	"slices"
	"testing"

	"vitrine/api"
	"vitrine/space"
)

// checkSame asks for Same in both directions.
func checkSame(t *testing.T, what string, a, b *space.Space, want bool) {
	t.Helper()
	if a.Same(b) != want || b.Same(a) != want {
		t.Errorf("%s: Same is %v, and %v the other way round; want %v", what, a.Same(b), b.Same(a), want)
	}
}

// checkDiff asks for Diff in both directions of two spaces of one size.
func checkDiff(t *testing.T, what string, a, b *space.Space, want ...int) {
	t.Helper()
	if got, back := a.Diff(b), b.Diff(a); !slices.Equal(got, want) || !slices.Equal(back, want) {
		t.Errorf("%s: Diff is %d, and %d the other way round; want %d", what, got, back, want)
	}
}

// upTo lists the positions below n.
func upTo(n int) []int {
	l := make([]int, n)
	for i := range l {
		l[i] = i
	}
	return l
}

// P12.2: a copy has everything that there is.
func TestCopy(t *testing.T) {
	each(t, func(model int, alternate bool, s *space.Space) {
		size := sizeOf(model, alternate)
		want := map[int]api.Cell{}
		for n := range size.Rows * size.Cols {
			s.Set(n, cellFor(n))
			want[n] = cellFor(n)
		}
		s.Place(1234)
		c := s.Copy()
		checkCells(t, c, size, want, 1234)
		if c.Model() != model || c.Alternate() != alternate {
			t.Errorf("the copy has the model %d, alternate %v; want %d, %v", c.Model(), c.Alternate(), model, alternate)
		}
		checkSame(t, "copy", s, c, true)
		c.Clear(true)
		checkCells(t, c, sizeOf(model, true), nil, 0)
		checkCells(t, s, size, want, 1234)
	})
}

// P12.2: neither of a space and its copy changes with the other.
func TestCopyIsIndependent(t *testing.T) {
	changes := map[string]func(s *space.Space){
		"Set":           func(s *space.Space) { s.Set(0, api.Cell{Attr: true, FA: 1}) },
		"Put":           func(s *space.Space) { s.Put(1919, 0xc2) },
		"Place":         func(s *space.Space) { s.Place(6) },
		"Clear default": func(s *space.Space) { s.Clear(false) },
		"Clear":         func(s *space.Space) { s.Clear(true) },
	}
	for name, change := range changes {
		for _, changed := range []int{0, 1} {
			s := newSpace(t, 5, false)
			s.Set(0, api.Cell{Attr: true, FA: 0x20})
			s.Put(1919, 0xc1)
			s.Place(5)
			pair := [2]*space.Space{s, s.Copy()}
			checkSame(t, name, pair[0], pair[1], true)
			change(pair[changed])
			checkSame(t, name, pair[0], pair[1], false)
			checkCells(t, pair[1-changed], sizeOf(5, false), map[int]api.Cell{0: {Attr: true, FA: 0x20}, 1919: {Char: 0xc1}}, 5)
		}
	}
}

// differences has cells that differ from each other in one field or more.
func differences() []api.Cell {
	return []api.Cell{
		{}, {Char: 0xc1}, {Char: 0xc2}, {High: 0xf1}, {Color: 0xf1}, {Set: 0xf1}, {Char: 0xc1, High: 0xf1},
		{Attr: true}, {Attr: true, FA: 0x20}, {Attr: true, FA: 0x01}, {Attr: true, High: 0xf1}, {Attr: true, Color: 0xf1}, {Attr: true, Set: 0xf1},
	}
}

// P12.2: Same and Diff with each field of a cell, at the ends and in the middle.
func TestCellsThatDiffer(t *testing.T) {
	for _, n := range []int{0, 1, 79, 80, 1000, 1918, 1919} {
		for i, a := range differences() {
			for j, b := range differences() {
				s, o := newSpace(t, 2, false), newSpace(t, 2, false)
				s.Set(n, a)
				o.Set(n, b)
				checkSame(t, "cells", s, o, i == j)
				if i == j {
					checkDiff(t, "equal cells", s, o)
				} else {
					checkDiff(t, "different cells", s, o, n)
				}
			}
		}
	}
}

// P12.2: what Set does not keep makes no difference.
func TestCellsThatDoNotDiffer(t *testing.T) {
	s, o := newSpace(t, 2, false), newSpace(t, 2, false)
	s.Set(3, api.Cell{Attr: true, FA: 0xff, Char: 0xc1})
	o.Set(3, api.Cell{Attr: true, FA: 0x3d})
	s.Set(4, api.Cell{Char: 0xc1, FA: 0xff})
	o.Set(4, api.Cell{Char: 0xc1})
	checkSame(t, "cells", s, o, true)
	checkDiff(t, "cells", s, o)
}

// P12.2: Diff's positions are increasing, however the cells came to differ; all of them may differ.
func TestDiffInOrder(t *testing.T) {
	each(t, func(model int, alternate bool, s *space.Space) {
		size := sizeOf(model, alternate)
		cells := size.Rows * size.Cols
		o := s.Copy()
		for _, n := range []int{-1, 17, 80, 0, 900} {
			o.Put(n, 0xc1)
		}
		s.Set(81, api.Cell{Attr: true})
		checkDiff(t, "some", s, o, 0, 17, 80, 81, 900, cells-1)
		for n := range cells {
			o.Set(n, api.Cell{Color: 0xf3})
		}
		checkDiff(t, "all", s, o, upTo(cells)...)
	})
}

// P12.2: the cursor makes two spaces different, but no cell.
func TestCursorsThatDiffer(t *testing.T) {
	s := newSpace(t, 2, false)
	s.Put(3, 0xc1)
	o := s.Copy()
	o.Place(1)
	checkSame(t, "cursors", s, o, false)
	checkDiff(t, "cursors", s, o)
	o.Place(1920)
	checkSame(t, "cursors", s, o, true)
}

// P12.2: models and sizes of empty spaces: Same asks for both, and Diff for the rows and columns alone.
func TestSizesThatDiffer(t *testing.T) {
	each(t, func(model int, alternate bool, s *space.Space) {
		each(t, func(otherModel int, otherAlternate bool, o *space.Space) {
			checkSame(t, "empty", s, o, model == otherModel && alternate == otherAlternate)
			size := sizeOf(model, alternate)
			var want []int
			if size != sizeOf(otherModel, otherAlternate) {
				want = upTo(size.Rows * size.Cols)
			}
			if got := s.Diff(o); !slices.Equal(got, want) {
				t.Errorf("model %d, %v, and %d, %v: Diff has %d positions, want %d", model, alternate, otherModel, otherAlternate, len(got), len(want))
			}
		})
	})
}

// P12.2: two spaces of one size differ by their cells, also if one has it as its alternate size.
func TestDiffOfModels(t *testing.T) {
	s, o := newSpace(t, 2, true), newSpace(t, 5, false)
	s.Set(4, api.Cell{Attr: true})
	o.Put(9, 0xc1)
	checkDiff(t, "models 2 and 5", s, o, 4, 9)
	checkDiff(t, "itself", s, s)
	checkSame(t, "itself", s, s, true)
}

// P12.2: two nil spaces are the same, and no other is the same as a nil one.
func TestCompareNil(t *testing.T) {
	var none *space.Space
	checkSame(t, "nil", none, nil, true)
	if got := none.Diff(nil); len(got) != 0 {
		t.Errorf("nil: Diff is %d", got)
	}
	each(t, func(model int, alternate bool, s *space.Space) {
		checkSame(t, "nil", s, none, false)
		if got := none.Diff(s); len(got) != 0 {
			t.Errorf("nil: Diff is %d", got)
		}
		if got := s.Diff(none); !slices.Equal(got, upTo(s.Size().Cells())) {
			t.Errorf("Diff(nil) is %d", got)
		}
	})
}

// The rule of memory: each list is new, and comparing changes nothing.
func TestMemory(t *testing.T) {
	s := newSpace(t, 2, false)
	dirty(s)
	o := newSpace(t, 2, false)
	before := s.Copy()
	first, second := s.Diff(o), s.Diff(o)
	for i := range first[:cap(first)] {
		first[:cap(first)][i] = -5
	}
	if third := s.Diff(o); !slices.Equal(second, []int{0, 900, 1919}) || !slices.Equal(third, second) {
		t.Errorf("Diff is shared: %d, %d", second, third)
	}
	s.Same(o)
	checkSame(t, "compared", s, before, true)
	checkCells(t, o, sizeOf(2, false), nil, 0)
}
