package snap_test

import (
	"math"
	"testing"

	"vitrine/api"
	"vitrine/class"
	"vitrine/page"
	"vitrine/snap"
)

// P26.1: an attribute is a space, whatever it is, and also within and ahead of hidden fields.
func TestSignOfAttributes(t *testing.T) {
	p := newPage(t, 37)
	for bits := range 0x40 {
		c := api.Cell{Attr: true, FA: byte(bits), High: 0xf1, Color: 0xf2, Set: escapes}
		s := newScreen(t, 2, false, cells{0: char(0xc1), 1: c, 2: char(0xc2)})
		checkSign(t, s, p, 1, ' ')
		want := 'B'
		if bits&hidden == hidden {
			want = ' '
		}
		checkSign(t, s, p, 2, want)
		checkSign(t, s, p, 0, map[rune]rune{'B': 'A', ' ': ' '}[want])
	}
}

// P26.1: a position of a hidden field is a space, around the screen, and up to the next attribute.
func TestSignOfHiddenFields(t *testing.T) {
	p := newPage(t, 37)
	s := newScreen(t, 2, false, cells{0: char(0xc1), 2: escape(0xc5), 3: char(0x1c), 5: attribute(0), 6: char(0xc2), 1000: attribute(0x2d), 1001: char(0xc3), 1919: char(0xc4)})
	for _, n := range []int{0, 1, 2, 3, 5, 1000, 1001, 1002, 1919, -1, 1920, 1922, -919} {
		checkSign(t, s, p, n, ' ')
	}
	checkSign(t, s, p, 6, 'B')
	s.Set(1000, attribute(0x08))
	for n, want := range map[int]rune{0: 'A', 2: 0x250c, 3: '*', 1001: 'C', 1919: 'D', -1: 'D', 1922: 0x250c} {
		checkSign(t, s, p, n, want)
	}
	// One attribute alone: its field goes all around.
	s = newScreen(t, 2, false, cells{7: attribute(hidden), 6: char(0xc1), 8: char(0xc1)})
	for n := range 1920 {
		checkSign(t, s, p, n, ' ')
	}
}

// P26.1: a cell of the set f1 is its graphic escape, or a space, also where its code is a character without the set.
func TestSignOfEscapes(t *testing.T) {
	count := 0
	for _, number := range pages {
		p := newPage(t, number)
		for code := range 256 {
			s := newScreen(t, 2, false, cells{5: escape(byte(code))})
			want, ok := page.Escape(byte(code))
			if !ok {
				want = ' '
			} else {
				count++
			}
			checkSign(t, s, p, 5, want)
		}
	}
	if count != 19*len(pages) {
		t.Error(count)
	}
	p := newPage(t, 37)
	s := newScreen(t, 2, false, cells{0: escape(0xc1), 1: escape(0xad), 2: escape(0x8b), 3: escape(0x1c), 4: escape(0)})
	for n, want := range []rune{' ', ' ', 0x2193, ' ', ' '} {
		checkSign(t, s, p, n, want)
	}
}

// P26.1: every other set is none: only f1 makes a graphic escape.
func TestSignOfOtherSets(t *testing.T) {
	p := newPage(t, 37)
	for set := range 256 {
		s := newScreen(t, 2, false, cells{5: {Char: 0xc5, High: 0xf1, Color: 0xf1, Set: byte(set)}})
		want := 'E'
		if set == escapes {
			want = 0x250c
		}
		checkSign(t, s, p, 5, want)
	}
}

// P26.1: any other cell is shown by its class, on every page; a nil page is page 37.
func TestSignOfCodes(t *testing.T) {
	for code := range 256 {
		s := newScreen(t, 2, false, cells{5: char(byte(code))})
		for _, number := range pages {
			p := newPage(t, number)
			checkSign(t, s, p, 5, class.Shown(p, byte(code)))
		}
		checkSign(t, s, nil, 5, class.Shown(newPage(t, 37), byte(code)))
	}
	// One code of each class, and the invisible ones.
	p := newPage(t, 37)
	for code, want := range map[byte]rune{0: ' ', 0x0c: ' ', 0x1c: '*', 0x1e: ';', 0x3f: 0xbf, 0xff: ' ', 0x0a: ' ', 0x40: ' ', 0xf7: '7', 0x82: 'b', 0x4b: '.', 0xca: ' ', 0x41: 0xa0, 0x43: 0xe4} {
		checkSign(t, newScreen(t, 2, false, cells{0: char(code)}), p, 0, want)
	}
	s := newScreen(t, 2, false, cells{0: char(0xc0)})
	checkSign(t, s, newPage(t, 273), 0, 0xe4)
	checkSign(t, s, nil, 0, '{')
}

// P26.1, layer 4: any number stands for a position, also far beyond the screen and below 0.
func TestSignAnywhere(t *testing.T) {
	p := newPage(t, 37)
	for _, alternate := range []bool{false, true} {
		s := newScreen(t, 5, alternate, nil)
		size := s.Size()
		for n := range size.Cells() {
			s.Put(n, byte(0xc1+n%9))
		}
		s.Set(11, attribute(hidden))
		s.Set(40, attribute(0))
		for _, n := range []int{0, 1, 11, 12, 39, 40, 41, size.Cells() - 1, size.Cells(), size.Cells() + 12, -1, -size.Cells(), -size.Cells() + 20, -size.Cells() - 1, 7*size.Cells() + 41,
			math.MaxInt, math.MaxInt - 1, math.MinInt, math.MinInt + 1, 1 << 32, -1 << 32} {
			checkSign(t, s, p, n, displayed(s, p, size.Wrap(n)))
		}
	}
}

// P26.1: a nil screen has spaces, everywhere.
func TestSignOfNil(t *testing.T) {
	for _, n := range []int{0, 1, -1, 1920, math.MaxInt, math.MinInt} {
		checkSign(t, nil, newPage(t, 37), n, ' ')
		checkSign(t, nil, nil, n, ' ')
	}
}

// The rule of memory: a screen and a page stay as they are.
func TestUnchanged(t *testing.T) {
	p := newPage(t, 273)
	s := newScreen(t, 5, true, cells{3: attribute(0x2d), 4: char(0xc1), 9: escape(0xc5), 100: attribute(1), 101: {Char: 0xc2, High: 0xf1, Color: 0xf2}})
	s.Place(77)
	before, other := s.Copy(), newScreen(t, 5, true, nil)
	snap.Sign(s, p, 4)
	snap.Line(s, p, 0)
	for range snap.Lines(s, p) {
	}
	snap.Text(s, p)
	snap.Fields(s, p)
	snap.Codes(s)
	snap.Diff(s, other, p)
	snap.Diff(other, s, p)
	snap.Find(s, p, "B")
	if !s.Same(before) || !other.Same(newScreen(t, 5, true, nil)) || p.Number() != 273 || p.Sign(0xc0) != 0xe4 {
		t.Error("something has changed")
	}
}
