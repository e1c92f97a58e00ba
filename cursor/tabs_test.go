package cursor_test

import (
	"slices"
	"testing"

	"vitrine/api"
	"vitrine/cursor"
	"vitrine/space"
)

// P15.3: all first positions, in the order of the tabs, each time, and no more when the consumer stops.
func TestTabs(t *testing.T) {
	for _, c := range samples() {
		s, firsts := c.screen(t), c.firsts()
		s.Place(700)
		before := s.Copy()
		positions := cursor.Tabs(s)
		for range 2 {
			if got := slices.Collect(positions); !slices.Equal(got, firsts) {
				t.Fatalf("attributes at %d: Tabs yields %d, want %d", c.at, got, firsts)
			}
		}
		for most := 1; most <= min(5, len(firsts)); most++ {
			var got []int
			for n := range positions {
				if got = append(got, n); len(got) == most {
					break
				}
			}
			if !slices.Equal(got, firsts[:most]) {
				t.Fatalf("attributes at %d: the first %d are %d, want %d", c.at, most, got, firsts[:most])
			}
		}
		if !s.Same(before) {
			t.Errorf("attributes at %d: Tabs changes the screen", c.at)
		}
	}
}

// P15.3: Tabs yields where Tab goes from the last position, until it is back.
func TestTabsFollowTab(t *testing.T) {
	for _, c := range samples() {
		s := c.screen(t)
		s.Place(-1)
		for n := range cursor.Tabs(s) {
			cursor.Tab(s)
			if s.Cursor() != n {
				t.Fatalf("attributes at %d: Tab goes to %d, Tabs yields %d", c.at, s.Cursor(), n)
			}
		}
		if len(c.firsts()) > 0 {
			cursor.Tab(s)
			if s.Cursor() != c.firsts()[0] {
				t.Errorf("attributes at %d: there is another first position, %d", c.at, s.Cursor())
			}
		}
	}
}

// P15.3 with fixed answers.
func TestTabsExamples(t *testing.T) {
	for _, c := range []struct{ pairs, want []int }{
		{nil, nil},
		{[]int{0, 0}, []int{1}},
		{[]int{-1, 0}, []int{0}},
		{[]int{-2, 0}, []int{1919}},
		{[]int{0, 0x20, 9, 0x30}, nil},
		{[]int{0, 0, 1, 0, 2, 0}, []int{3}},
		{[]int{4, 0, 9, 0x20, 90, 0x10, -2, 0, 1, 0x20}, []int{5, 91, 1919}},
		{[]int{4, 0, 9, 0x20, 90, 0x1d, -1, 0}, []int{0, 5, 91}},
		{[]int{0, 0x20, -1, 0}, nil},
	} {
		if got := slices.Collect(cursor.Tabs(lay(24, 80, c.pairs...).screen(t))); !slices.Equal(got, c.want) {
			t.Errorf("attributes %d: Tabs yields %d, want %d", c.pairs, got, c.want)
		}
	}
}

// P15.3: the index of each first position, and of none that is not.
func TestIndex(t *testing.T) {
	for _, c := range samples() {
		s, firsts := c.screen(t), c.firsts()
		before := s.Copy()
		for _, n := range c.positions() {
			s.Place(n)
			if got, want := cursor.Index(s), slices.Index(firsts, n); got != want || s.Cursor() != n {
				t.Fatalf("attributes at %d: the index of %d is %d, want %d", c.at, n, got, want)
			}
		}
		if l := before.Diff(s); len(l) != 0 {
			t.Errorf("attributes at %d: Index changes %d", c.at, l)
		}
	}
}

// P15.3 with fixed answers: first positions, positions within fields and their attributes.
func TestIndexExamples(t *testing.T) {
	s := lay(24, 80, 4, 0, 9, 0x20, 90, 0, 1919, 0x10).screen(t)
	for n, want := range map[int]int{0: 0, 5: 1, 91: 2, 1: -1, 4: -1, 6: -1, 9: -1, 10: -1, 90: -1, 1919: -1} {
		s.Place(n)
		if got := cursor.Index(s); got != want {
			t.Errorf("the index of %d is %d, want %d", n, got, want)
		}
	}
	s, _ = space.New(2)
	if got := cursor.Index(s); got != -1 {
		t.Errorf("without fields the index is %d", got)
	}
}

// A screen is used in its state at the time of use: what changes before an element is asked for counts.
func TestTabsWhileFieldsChange(t *testing.T) {
	s := lay(24, 80, 4, 0, 9, 0x20, 90, 0, 200, 0).screen(t)
	positions := cursor.Tabs(s)
	s.Set(9, api.Cell{Attr: true})
	var got []int
	for n := range positions {
		got = append(got, n)
		switch n {
		case 5:
			s.Set(2, api.Cell{Attr: true})
			s.Set(50, api.Cell{Attr: true})
			s.Place(1000)
		case 10:
			s.Set(50, api.Cell{Attr: true, FA: 0x20})
			s.Set(200, api.Cell{})
		case 91:
			s.Set(1918, api.Cell{Attr: true})
		}
	}
	if want := []int{5, 10, 91, 1919}; !slices.Equal(got, want) {
		t.Errorf("Tabs yields %d, want %d", got, want)
	}
}

// P1: a consumer that moves the fields or changes the size comes to an end.
func TestTabsEnd(t *testing.T) {
	for name, change := range map[string]func(s *space.Space, n int){
		"cleared":            func(s *space.Space, n int) { s.Clear(false) },
		"cleared to another": func(s *space.Space, n int) { s.Clear(!s.Alternate()); s.Set(n+1, api.Cell{Attr: true}) },
		"moved on":           func(s *space.Space, n int) { s.Set(n-1, api.Cell{}); s.Set(n, api.Cell{Attr: true}) },
	} {
		s := lay(27, 132, 0, 0).screen(t)
		steps := 0
		for n := range cursor.Tabs(s) {
			if steps++; steps > api.MaxCells {
				t.Fatalf("%s: no end", name)
			}
			change(s, n)
		}
	}
}
