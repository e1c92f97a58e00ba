package space_test

import (
	"math"
	"testing"

	"vitrine/addr"
	"vitrine/api"
	"vitrine/space"
)

// models has the alternate size of each model.
func models() map[int]addr.Size {
	return map[int]addr.Size{
		2: {Rows: 24, Cols: 80}, 3: {Rows: 32, Cols: 80}, 4: {Rows: 43, Cols: 80}, 5: {Rows: 27, Cols: 132},
	}
}

// sizeOf is the size that a space should have.
func sizeOf(model int, alternate bool) addr.Size {
	if alternate {
		return models()[model]
	}
	return addr.Size{Rows: 24, Cols: 80}
}

func newSpace(t *testing.T, model int, alternate bool) *space.Space {
	t.Helper()
	s, e := space.New(model)
	if e != api.OK || s == nil {
		t.Fatalf("New(%d): %v, %d", model, s, e)
	}
	if alternate {
		s.Clear(true)
	}
	return s
}

// each runs a check with every model in both sizes.
func each(t *testing.T, check func(model int, alternate bool, s *space.Space)) {
	t.Helper()
	for model := range models() {
		for _, alternate := range []bool{false, true} {
			check(model, alternate, newSpace(t, model, alternate))
		}
	}
}

// numbers stand for positions: they are positions, below 0, and beyond any screen, up to the greatest.
func numbers() []int {
	return []int{
		0, 1, 2, 79, 80, 81, 131, 132, 1918, 1919, 1920, 1921, 2559, 2560, 3439, 3440, 3562, 3563, 3564, 3565,
		-1, -2, -80, -81, -1919, -1920, -1921, -2560, -3440, -3563, -3564, -3565, 1 << 40, -1 << 40,
		math.MaxInt, math.MaxInt - 1, math.MinInt, math.MinInt + 1, math.MaxInt32, math.MinInt32,
	}
}

// wrap is the remainder that is not below 0.
func wrap(n, cells int) int {
	return (n%cells + cells) % cells
}

// kinds are characters and attributes, also with fields that no cell of a screen has.
func kinds() []api.Cell {
	return []api.Cell{
		{}, {Char: 0xc1}, {Char: 0xff, High: 0xf1, Color: 0xf2, Set: 0xf1}, {High: 0x01, Color: 0x02, Set: 0x03},
		{FA: 0xff}, {Char: 0x40, FA: 0x20, Color: 0xf7},
		{Attr: true}, {Attr: true, FA: 0x3d, High: 0xf8, Color: 0xf1, Set: 0xf1},
		{Attr: true, FA: 0xff, Char: 0xc1}, {Attr: true, FA: 0x02, High: 0xff}, {Attr: true, FA: 0xc0, Set: 0x44},
	}
}

// kept is what a screen keeps of a cell.
func kept(c api.Cell) api.Cell {
	if c.Attr {
		return api.Cell{Attr: true, FA: c.FA & 0x3d, High: c.High, Color: c.Color, Set: c.Set}
	}
	return api.Cell{Char: c.Char, High: c.High, Color: c.Color, Set: c.Set}
}

// checkCells holds all cells and the cursor against what is wanted; the cells that want does not name are empty.
func checkCells(t *testing.T, s *space.Space, size addr.Size, want map[int]api.Cell, cursor int) {
	t.Helper()
	if s.Size() != size || s.Cursor() != cursor {
		t.Fatalf("size %v, cursor %d; want %v, %d", s.Size(), s.Cursor(), size, cursor)
	}
	formatted := false
	for n := range size.Rows * size.Cols {
		if s.At(n) != want[n] {
			t.Fatalf("At(%d) is %v, want %v", n, s.At(n), want[n])
		}
		formatted = formatted || want[n].Attr
	}
	if s.Formatted() != formatted {
		t.Fatalf("Formatted is %v", s.Formatted())
	}
}

// dirty changes cells at both ends and in the middle, and the cursor.
func dirty(s *space.Space) {
	s.Set(0, api.Cell{Attr: true, FA: 0x20})
	s.Set(-1, api.Cell{Char: 0xc1, Color: 0xf2})
	s.Put(900, 0xc2)
	s.Place(77)
}

// P12.1: a new space of each model, and of numbers that no model has.
func TestNew(t *testing.T) {
	for model := range models() {
		s, e := space.New(model)
		if e != api.OK || s.Model() != model || s.Alternate() {
			t.Fatalf("New(%d): %d, model %d, alternate %v", model, e, s.Model(), s.Alternate())
		}
		checkCells(t, s, sizeOf(2, false), nil, 0)
	}
	for _, model := range []int{0, 1, 6, -1, -2, -5, 24, 80, 258, math.MaxInt, math.MinInt} {
		if s, e := space.New(model); s != nil || e != api.ErrNone {
			t.Errorf("New(%d): %v, %d", model, s, e)
		}
	}
}

// P12.1: two spaces of one model share nothing.
func TestNewTwice(t *testing.T) {
	a, b := newSpace(t, 3, false), newSpace(t, 3, false)
	dirty(a)
	a.Clear(true)
	dirty(a)
	checkCells(t, b, sizeOf(3, false), nil, 0)
}

// P12.1, P12.2: from either size to either, whatever is on the screen; the model stays.
func TestClear(t *testing.T) {
	for _, to := range []bool{false, true} {
		each(t, func(model int, from bool, s *space.Space) {
			for range 2 {
				dirty(s)
				s.Clear(to)
				checkCells(t, s, sizeOf(model, to), nil, 0)
				if s.Model() != model || s.Alternate() != to {
					t.Errorf("model %d from %v to %v: %d, %v", model, from, to, s.Model(), s.Alternate())
				}
			}
		})
	}
}

// P12.1: Clear to a smaller size and back does not bring anything back.
func TestClearForthAndBack(t *testing.T) {
	s := newSpace(t, 4, true)
	s.Set(3000, api.Cell{Attr: true})
	s.Place(3000)
	s.Clear(false)
	checkCells(t, s, sizeOf(4, false), nil, 0)
	s.Clear(true)
	checkCells(t, s, sizeOf(4, true), nil, 0)
}

// P12.1: every kind of cell, set over every kind, at every kind of number.
func TestSet(t *testing.T) {
	each(t, func(model int, alternate bool, s *space.Space) {
		size := sizeOf(model, alternate)
		for _, n := range numbers() {
			at := wrap(n, size.Rows*size.Cols)
			for _, c := range kinds() {
				s.Set(n, c)
				if s.At(n) != kept(c) || s.At(at) != kept(c) {
					t.Fatalf("%v: Set(%d, %v): %v at %d, %v at %d", size, n, c, s.At(n), n, s.At(at), at)
				}
			}
			checkCells(t, s, size, map[int]api.Cell{at: kept(kinds()[len(kinds())-1])}, 0)
			s.Set(n, api.Cell{})
		}
		checkCells(t, s, size, nil, 0)
	})
}

// P12.1: each byte as the FA and the Char of an attribute and of a character.
func TestSetEachByte(t *testing.T) {
	s := newSpace(t, 2, false)
	for b := range 256 {
		for _, attr := range []bool{false, true} {
			c := api.Cell{Char: byte(b), Attr: attr, FA: byte(b), High: byte(b), Color: byte(b + 1), Set: byte(b + 2)}
			s.Set(7, c)
			if s.At(7) != kept(c) {
				t.Errorf("Set(%v): %v", c, s.At(7))
			}
		}
	}
}

// cellFor has a content of its own for each position; every third is an attribute.
func cellFor(n int) api.Cell {
	if n%3 == 0 {
		return api.Cell{Attr: true, FA: byte(n/3) & 0x3d, High: byte(n / 256), Color: byte(n)}
	}
	return api.Cell{Char: byte(n), High: byte(n / 256), Set: 0xf1}
}

// P12.1: each position has a cell of its own.
func TestSetEachPosition(t *testing.T) {
	each(t, func(model int, alternate bool, s *space.Space) {
		size := sizeOf(model, alternate)
		want := map[int]api.Cell{}
		for n := range size.Rows * size.Cols {
			s.Set(n, cellFor(n))
			want[n] = cellFor(n)
		}
		checkCells(t, s, size, want, 0)
	})
}

// P12.1: Put changes the Char of a character alone, and nothing of an attribute.
func TestPut(t *testing.T) {
	each(t, func(model int, alternate bool, s *space.Space) {
		size := sizeOf(model, alternate)
		for _, n := range numbers() {
			at := wrap(n, size.Rows*size.Cols)
			for _, c := range kinds() {
				s.Set(at, c)
				s.Put(n, 0x99)
				want := kept(c)
				if !c.Attr {
					want.Char = 0x99
				}
				checkCells(t, s, size, map[int]api.Cell{at: want}, 0)
			}
			s.Set(at, api.Cell{})
		}
	})
}

// P12.1: each code, put on an empty cell, on a colored one and on an attribute.
func TestPutEachCode(t *testing.T) {
	s := newSpace(t, 2, false)
	s.Set(1, api.Cell{Char: 0xc1, High: 0xf1, Color: 0xf2, Set: 0xf1})
	s.Set(2, api.Cell{Attr: true, FA: 0x24, High: 0xf4})
	for code := range 256 {
		for n := range 3 {
			s.Put(n, byte(code))
		}
		checkCells(t, s, sizeOf(2, false), map[int]api.Cell{
			0: {Char: byte(code)},
			1: {Char: byte(code), High: 0xf1, Color: 0xf2, Set: 0xf1},
			2: {Attr: true, FA: 0x24, High: 0xf4},
		}, 0)
	}
}

// P12.1, P12.2: the cursor, at every position and wherever a number stands for one; it changes no cell.
func TestPlace(t *testing.T) {
	each(t, func(model int, alternate bool, s *space.Space) {
		size := sizeOf(model, alternate)
		cells := size.Rows * size.Cols
		for n := range cells {
			if s.Place(n); s.Cursor() != n {
				t.Fatalf("%v: Place(%d): %d", size, n, s.Cursor())
			}
		}
		for _, n := range numbers() {
			if s.Place(n); s.Cursor() != wrap(n, cells) {
				t.Errorf("%v: Place(%d): %d, want %d", size, n, s.Cursor(), wrap(n, cells))
			}
		}
		checkCells(t, s, size, nil, s.Cursor())
	})
}

// P12.1: Set and Put do not move the cursor, also where it is.
func TestCursorStays(t *testing.T) {
	s := newSpace(t, 2, false)
	s.Place(5)
	s.Set(5, api.Cell{Attr: true})
	s.Put(6, 0xc1)
	s.Set(5, api.Cell{Char: 0xc2})
	if s.Cursor() != 5 {
		t.Errorf("the cursor is at %d", s.Cursor())
	}
}

// P12.2: an attribute at any one position makes a space formatted, and its removal makes it unformatted.
func TestFormatted(t *testing.T) {
	each(t, func(model int, alternate bool, s *space.Space) {
		size := sizeOf(model, alternate)
		for n := range size.Rows * size.Cols {
			s.Set(n, api.Cell{Attr: true})
			if !s.Formatted() {
				t.Fatalf("%v: not formatted by %d", size, n)
			}
			s.Put(n, 0xc1)
			if !s.Formatted() {
				t.Fatalf("%v: not formatted by %d after Put", size, n)
			}
			s.Set(n, api.Cell{Char: 0xc1, FA: 0x20})
			if s.Formatted() {
				t.Fatalf("%v: formatted after %d", size, n)
			}
		}
	})
}

// The chapter's example.
func TestExample(t *testing.T) {
	s, _ := space.New(5)
	if s.Size() != (addr.Size{Rows: 24, Cols: 80}) {
		t.Errorf("New(5) has %v", s.Size())
	}
	s.Clear(true)
	if s.Size() != (addr.Size{Rows: 27, Cols: 132}) {
		t.Errorf("after Clear(true) it has %v", s.Size())
	}
}

// P12.2: a nil space has nothing, and nothing can be done to it.
func TestNil(t *testing.T) {
	var s *space.Space
	for _, n := range numbers() {
		s.Set(n, api.Cell{Attr: true})
		s.Put(n, 0xc1)
		s.Place(n)
		s.Clear(n%2 == 0)
		if s.At(n) != (api.Cell{}) || s.Cursor() != 0 {
			t.Errorf("At(%d) is %v, the cursor is at %d", n, s.At(n), s.Cursor())
		}
	}
	if s.Size() != (addr.Size{}) || s.Model() != 0 || s.Alternate() || s.Formatted() || s.Copy() != nil {
		t.Errorf("%v, %d, %v, %v, %v", s.Size(), s.Model(), s.Alternate(), s.Formatted(), s.Copy())
	}
	for n, c := range s.All() {
		t.Errorf("All yields %d, %v", n, c)
	}
	for n := range s.Attrs() {
		t.Errorf("Attrs yields %d", n)
	}
}
