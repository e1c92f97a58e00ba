package space_test

import (
	"slices"
	"testing"

	"vitrine/api"
	"vitrine/space"
)

// place is a position with its cell, as All yields them.
type place struct {
	n int
	c api.Cell
}

// all collects at most most elements of All.
func all(s *space.Space, most int) []place {
	var l []place
	for n, c := range s.All() {
		if l = append(l, place{n, c}); len(l) == most {
			break
		}
	}
	return l
}

// attrs collects at most most elements of Attrs.
func attrs(s *space.Space, most int) []int {
	var l []int
	for n := range s.Attrs() {
		if l = append(l, n); len(l) == most {
			break
		}
	}
	return l
}

// P12.2: All yields all cells by position, each time, and no more when its consumer stops.
func TestAll(t *testing.T) {
	each(t, func(model int, alternate bool, s *space.Space) {
		size := sizeOf(model, alternate)
		cells := size.Rows * size.Cols
		var want []place
		for n := range cells {
			s.Set(n, cellFor(n))
			want = append(want, place{n, cellFor(n)})
		}
		for _, most := range []int{-1, 1, 2, 80, cells - 1, cells} {
			got := all(s, most)
			if !slices.Equal(got, want[:len(got)]) || most < 0 && len(got) != cells || most > 0 && len(got) != most {
				t.Errorf("%v: %d elements, most %d", size, len(got), most)
			}
		}
		again := s.All()
		for range 2 {
			count := 0
			for n, c := range again {
				if n != count || c != cellFor(n) {
					t.Fatalf("%v: %d, %v, want %d, %v", size, n, c, count, cellFor(count))
				}
				count++
			}
			if count != cells {
				t.Errorf("%v: %d elements", size, count)
			}
		}
	})
}

// P12.2: Attrs yields the attributes alone, in order, each time, and no more when its consumer stops.
func TestAttrs(t *testing.T) {
	for _, want := range [][]int{
		nil, {0}, {1919}, {0, 1919}, {5}, {5, 6, 7}, {0, 1, 2, 80, 1918, 1919}, {79, 80, 159, 160, 1000},
	} {
		s := newSpace(t, 2, false)
		for n := range 1920 {
			s.Set(n, api.Cell{Char: 0xc1, FA: 0x20})
		}
		for i := range want {
			s.Set(want[len(want)-1-i], api.Cell{Attr: true, FA: byte(i)})
		}
		again := s.Attrs()
		for range 2 {
			if got := slices.Collect(again); !slices.Equal(got, want) {
				t.Errorf("Attrs yields %d, want %d", got, want)
			}
		}
		for most := 1; most <= len(want); most++ {
			if got := attrs(s, most); !slices.Equal(got, want[:most]) {
				t.Errorf("the first %d are %d, want %d", most, got, want[:most])
			}
		}
	}
}

// P12.2: on a screen of attributes alone, Attrs yields every position.
func TestAttrsEverywhere(t *testing.T) {
	each(t, func(model int, alternate bool, s *space.Space) {
		size := sizeOf(model, alternate)
		var want []int
		for n := range size.Rows * size.Cols {
			s.Set(n, api.Cell{Attr: true})
			want = append(want, n)
		}
		if got := attrs(s, -1); !slices.Equal(got, want) {
			t.Errorf("%v: %d positions", size, len(got))
		}
	})
}

// P12.2: what changes between the call and the first element is yielded as it is then.
func TestIteratorsAfterChanges(t *testing.T) {
	s := newSpace(t, 5, false)
	s.Set(9, api.Cell{Attr: true})
	cells, positions := s.All(), s.Attrs()
	s.Clear(true)
	s.Set(3563, api.Cell{Attr: true, FA: 1})
	s.Set(0, api.Cell{Attr: true, FA: 4})
	if got := slices.Collect(positions); !slices.Equal(got, []int{0, 3563}) {
		t.Errorf("Attrs yields %d", got)
	}
	count := 0
	for n, c := range cells {
		if n != count || c != s.At(n) {
			t.Fatalf("All yields %d, %v", n, c)
		}
		count++
	}
	if count != 3564 {
		t.Errorf("All yields %d cells", count)
	}
}

// P12.2: a cell that is changed before it is reached is yielded as it is then; one that was yielded is not yielded again.
func TestAllWhileCellsChange(t *testing.T) {
	s := newSpace(t, 2, false)
	count := 0
	for n, c := range s.All() {
		want := api.Cell{}
		if n > 0 {
			want.Char = byte(n)
		}
		if n != count || c != want {
			t.Fatalf("%d, %v; want %d, %v", n, c, count, want)
		}
		s.Put(n, 0xff)
		if n < 1919 {
			s.Put(n+1, byte(n+1))
		}
		count++
	}
	if count != 1920 {
		t.Errorf("%d cells", count)
	}
}

// P12.2: attributes that are set and removed between the elements.
func TestAttrsWhileCellsChange(t *testing.T) {
	s := newSpace(t, 2, false)
	for _, n := range []int{3, 8, 20} {
		s.Set(n, api.Cell{Attr: true})
	}
	var got []int
	for n := range s.Attrs() {
		got = append(got, n)
		switch n {
		case 3:
			s.Set(8, api.Cell{})
			s.Set(2, api.Cell{Attr: true})
			s.Set(4, api.Cell{Attr: true})
		case 4:
			s.Set(4, api.Cell{})
		case 20:
			s.Set(1919, api.Cell{Attr: true})
		}
	}
	if want := []int{3, 4, 20, 1919}; !slices.Equal(got, want) {
		t.Errorf("%d, want %d", got, want)
	}
}

// P12.2: the size that changes between the elements; the positions go on in the new size, up to its end.
func TestIteratorsWhileTheSizeChanges(t *testing.T) {
	for _, c := range []struct {
		from, to bool
		at, last int
	}{
		{false, true, 0, 3563}, {false, true, 1919, 3563}, {true, false, 100, 1919},
		{true, false, 1918, 1919}, {true, false, 1919, 1919}, {true, false, 1920, 1920}, {true, false, 3563, 3563},
	} {
		s := newSpace(t, 5, c.from)
		s.Set(c.at, api.Cell{Attr: true})
		count := 0
		for n, cell := range s.All() {
			if n != count || cell.Attr != (n == c.at) {
				t.Fatalf("%v: %d, %v", c, n, cell)
			}
			if n == c.at {
				s.Clear(c.to)
			}
			count++
		}
		if count != c.last+1 {
			t.Errorf("%v: the last position is %d", c, count-1)
		}
	}
	s := newSpace(t, 5, true)
	s.Set(2000, api.Cell{Attr: true})
	for n := range s.Attrs() {
		s.Clear(n != 2000)
		s.Set(-1, api.Cell{Attr: true})
	}
	if s.Alternate() || !s.At(1919).Attr {
		t.Error("Attrs goes on beyond the screen")
	}
}

// P12.2: within the ranging over one iterator, another starts anew.
func TestIteratorsNested(t *testing.T) {
	s := newSpace(t, 2, false)
	for _, n := range []int{1, 5, 1919} {
		s.Set(n, api.Cell{Attr: true})
	}
	var got []int
	positions := s.Attrs()
	for a := range positions {
		for b := range positions {
			got = append(got, a*10000+b)
		}
	}
	if want := []int{10001, 10005, 11919, 50001, 50005, 51919, 19190001, 19190005, 19191919}; !slices.Equal(got, want) {
		t.Errorf("%d, want %d", got, want)
	}
}
