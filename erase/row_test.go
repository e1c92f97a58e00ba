package erase_test

import (
	"slices"
	"testing"

	"vitrine/api"
	"vitrine/erase"
	"vitrine/space"
)

// row lists the positions from n up to the next attribute or to the row's edge.
func (c sample) row(n int) []int {
	var l []int
	for edge := n - n%c.cols() + c.cols(); n < edge && !c[n].Attr; n++ {
		l = append(l, n)
	}
	return l
}

// P14.2: from each position, and no more when the consumer stops.
func TestRow(t *testing.T) {
	each(t, func(c sample) {
		s := c.screen(t)
		for _, n := range c.numbers() {
			want := c.row(c.wrap(n))
			positions := erase.Row(s, n)
			for range 2 {
				if got := slices.Collect(positions); !slices.Equal(got, want) {
					t.Fatalf("attributes at %d: Row(%d) yields %d, want %d", c.attrs(), n, got, want)
				}
			}
			for most := 1; most <= len(want); most += 9 {
				var got []int
				for p := range positions {
					if got = append(got, p); len(got) == most {
						break
					}
				}
				if !slices.Equal(got, want[:most]) {
					t.Fatalf("attributes at %d: the first %d of Row(%d) are %d", c.attrs(), most, n, got)
				}
			}
		}
		c.check(t, s, 1234, "Row")
	})
}

// P14.2 with fixed answers: the first and the last position, of a screen with attributes at 3, 4, 79, 100, 1838 and 1919.
func TestRowExamples(t *testing.T) {
	s := lay(narrow, fills()[1], 3, 0x20, 4, 0, 79, 0x30, 100, 1, 1838, 0, 1919, 0).screen(t)
	for _, c := range []struct{ n, first, last int }{
		{0, 0, 2}, {2, 2, 2}, {5, 5, 78}, {78, 78, 78}, {80, 80, 99}, {101, 101, 159}, {159, 159, 159}, {160, 160, 239}, {1837, 1837, 1837},
		{1839, 1839, 1839}, {1840, 1840, 1918}, {-2, 1918, 1918}, {1922, 2, 2}, {-1920, 0, 2},
	} {
		l := slices.Collect(erase.Row(s, c.n))
		if len(l) != c.last-c.first+1 || l[0] != c.first || l[len(l)-1] != c.last {
			t.Errorf("Row(%d) yields %d", c.n, l)
		}
	}
	for _, n := range []int{3, 4, 79, 100, 1838, 1919, -1, 1923} {
		if l := slices.Collect(erase.Row(s, n)); len(l) != 0 {
			t.Errorf("Row(%d) yields %d, from an attribute", n, l)
		}
	}
}

// A screen is used in its state at the time of use: what changes before an element is asked for counts.
func TestRowWhileCellsChange(t *testing.T) {
	for name, c := range map[string]struct {
		at     int
		change func(s *space.Space)
		want   []int
	}{
		"an attribute next":     {74, func(s *space.Space) { s.Set(75, api.Cell{Attr: true}) }, []int{74}},
		"an attribute ahead":    {74, func(s *space.Space) { s.Set(76, api.Cell{Attr: true}) }, []int{74, 75}},
		"an attribute there":    {74, func(s *space.Space) { s.Set(74, api.Cell{Attr: true}) }, []int{74, 75, 76}},
		"an attribute removed":  {76, func(s *space.Space) { s.Set(77, api.Cell{}) }, []int{74, 75, 76, 77, 78, 79}},
		"characters":            {75, func(s *space.Space) { s.Put(76, 0) }, []int{74, 75, 76}},
		"a row that gets wider": {76, func(s *space.Space) { s.Clear(true); s.Set(81, api.Cell{Attr: true}) }, []int{74, 75, 76, 77, 78, 79, 80}},
	} {
		s := lay(narrow, fills()[1], 77, 0x20).screen(t)
		var got []int
		for n := range erase.Row(s, 74) {
			if got = append(got, n); n == c.at {
				c.change(s)
			}
		}
		if !slices.Equal(got, c.want) {
			t.Errorf("%s: %d, want %d", name, got, c.want)
		}
	}
	s := lay(narrow, fills()[1], 77, 0x20).screen(t)
	positions := erase.Row(s, 3000)
	s.Clear(true)
	s.Set(3003, api.Cell{Attr: true})
	if got := slices.Collect(positions); !slices.Equal(got, []int{3000, 3001, 3002}) {
		t.Errorf("after Clear: %d", got)
	}
}

// P1: a consumer that changes the size again and again comes to an end, and gets positions of the screen alone.
func TestRowWhileTheSizeChanges(t *testing.T) {
	for _, n := range []int{0, 79, 100, 1900, 3432, 3563} {
		s := lay(wide, fills()[0]).screen(t)
		steps := 0
		for p := range erase.Row(s, n) {
			if p < 0 || p >= s.Size().Cells() || steps > 132 {
				t.Fatalf("%d after %d steps", p, steps)
			}
			s.Clear(!s.Alternate())
			steps++
		}
	}
}
