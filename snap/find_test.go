package snap_test

import (
	"math/rand/v2"
	"slices"
	"strings"
	"testing"

	"vitrine/api"
	"vitrine/page"
	"vitrine/snap"
	"vitrine/space"
)

// P26.2: Find returns the smallest position from which on the text is displayed.
func TestFind(t *testing.T) {
	p := newPage(t, 37)
	s := written(t, 100, "\xc1\xc2\xc1\xc2\xc3")
	write(s, 500, "\xc1\xc2\xc3")
	write(s, 79, "\x81\x43\xf0")
	for text, want := range map[string]int{
		"A": 100, "AB": 100, "ABC": 102, "ABABC": 100, "BA": 101, "C": 104, "CA": -1, "ABCD": -1, "a": 79, "aä0": 79, "ä": 80, "0 ": 81, " A": 99, " ABC": 499, "C  ": 104, "x": -1, "ab": -1, "Ä": -1,
		" ": 0, "  ": 0, strings.Repeat(" ", 79) + "a": 0, strings.Repeat(" ", 80) + "a": 1919, strings.Repeat(" ", 395): 105, strings.Repeat(" ", 396): 503, "\u00a0": -1, "\x00": -1, "\n": -1, "\xff": -1, "\ufffd": -1, "A\xff": -1, "\xc3": -1,
	} {
		checkFind(t, s, p, text, want)
	}
	// At the last positions, and around the screen.
	write(s, 1919, "\xc4")
	write(s, 1915, "\xc4")
	checkFind(t, s, p, "D", 1915)
	checkFind(t, s, p, "D   D", 1915)
	checkFind(t, s, p, "D    ", 1919)
	checkFind(t, s, p, "D"+strings.Repeat(" ", 79)+"aä0", 1919)
	write(s, 0, "\xc5")
	checkFind(t, s, p, "DE", 1919)
	checkFind(t, s, p, "ED", -1)
	checkFind(t, s, p, "D   DE ", 1915)
}

// P26.2: the empty text is at 0, on any screen.
func TestFindEmptyText(t *testing.T) {
	for model := 2; model <= 5; model++ {
		checkFind(t, newScreen(t, model, true, cells{0: char(0xc1), 9: attribute(hidden)}), nil, "", 0)
	}
}

// P26.2: what is displayed counts: attributes and hidden characters are spaces, graphic escapes their characters.
func TestFindDisplayed(t *testing.T) {
	s := newScreen(t, 2, false, cells{0: attribute(0x20), 1: char(0xc1), 2: attribute(hidden), 3: char(0xc2), 4: char(0xc3), 5: attribute(0), 6: char(0xc2), 7: escape(0xc5), 8: char(0x1c), 9: char(0xc2)})
	for text, want := range map[string]int{"A": 1, " A ": 0, "A    B": 1, "B": 6, "B┌*B": 6, "C": -1, "*B": 8, "E": -1, "  B": 4, " B": 5} {
		checkFind(t, s, newPage(t, 37), text, want)
	}
	s = written(t, 7, "\xc0\x9f")
	for number, text := range map[int]string{37: "{¤", 273: "ä¤", 1140: "{€"} {
		checkFind(t, s, newPage(t, number), text, 7)
	}
	checkFind(t, s, nil, "{¤", 7)
	checkFind(t, s, nil, "ä", -1)
}

// P26.2, layer 4: the first position follows the last one, as often as the text is longer than the screen.
func TestFindLongText(t *testing.T) {
	s := newScreen(t, 2, false, nil)
	checkFind(t, s, nil, strings.Repeat(" ", 1920), 0)
	checkFind(t, s, nil, strings.Repeat(" ", 1921), 0)
	checkFind(t, s, nil, strings.Repeat(" ", 5000), 0)
	checkFind(t, s, nil, strings.Repeat(" ", 5000)+"A", -1)
	write(s, 3, "\xc1")
	once := "A" + strings.Repeat(" ", 1919)
	checkFind(t, s, nil, once, 3)
	checkFind(t, s, nil, "   "+once[:1917], 0)
	checkFind(t, s, nil, once+"A", 3)
	checkFind(t, s, nil, once+" ", -1)
	checkFind(t, s, nil, once+once+"A ", 3)
	checkFind(t, s, nil, strings.Repeat(" ", 1919), 4)
	checkFind(t, s, nil, strings.Repeat(" ", 1920), -1)
	checkFind(t, s, nil, " "+once+once, 2)
	checkFind(t, s, nil, strings.Repeat("x", 100000), -1)
}

// P26.2: on a nil screen nothing is found, also no empty text.
func TestFindOnNil(t *testing.T) {
	for _, text := range []string{"", " ", "A"} {
		checkFind(t, nil, nil, text, -1)
		checkFind(t, nil, newPage(t, 37), text, -1)
	}
}

// randomScreen has few characters, so that they meet, and seldom many fields.
func randomScreen(t *testing.T, r *rand.Rand) *space.Space {
	t.Helper()
	s := newScreen(t, 2+r.IntN(4), r.IntN(2) == 0, nil)
	cells := s.Size().Cells()
	for range r.IntN(200) {
		n := r.IntN(cells)
		switch r.IntN(5) {
		case 0:
			s.Set(n, attribute(byte(r.IntN(64))))
		case 1:
			s.Set(n, escape(byte(r.IntN(256))))
		case 2:
			s.Set(n, api.Cell{Char: byte(r.IntN(256)), Color: 0xf2})
		default:
			s.Set(n, char("\xc1\xc2\x40\x00"[r.IntN(4)]))
		}
	}
	return s
}

// found goes by what is displayed, position by position.
func found(all []rune, text []rune) int {
	for n := range all {
		ok := true
		for i, sign := range text {
			ok = ok && all[(n+i)%len(all)] == sign
		}
		if ok {
			return n
		}
	}
	return -1
}

// P26.1 and P26.2: screens by chance are displayed as the chapter says, position by position.
func TestByChance(t *testing.T) {
	r := rand.New(rand.NewPCG(26, 1))
	for i := range 60 {
		s := randomScreen(t, r)
		var p *page.Page
		if i%4 > 0 {
			p = newPage(t, pages[r.IntN(len(pages))])
		}
		size := s.Size()
		var all []rune
		for n := range size.Cells() {
			all = append(all, displayed(s, p, n))
		}
		n := r.IntN(20000) - 10000
		checkSign(t, s, p, n, all[size.Wrap(n)])
		for row := range size.Rows {
			checkLine(t, s, p, row, strings.TrimRight(string(all[row*size.Cols:(row+1)*size.Cols]), " "))
		}
		fields := snap.Fields(s, p)
		k := 0
		for start := range s.Attrs() {
			text := ""
			for n := start + 1; !s.At(n).Attr; n++ {
				text += string(all[size.Wrap(n)])
			}
			if !strings.HasSuffix(fields[k], " "+strings.TrimRight(text, " ")) || strings.HasSuffix(fields[k], "  ") {
				t.Fatalf("%q, want the characters %q", fields[k], text)
			}
			k++
		}
		if k != len(fields) {
			t.Fatal(k, len(fields))
		}
		for range 10 {
			at, length := r.IntN(len(all)), 1+r.IntN(4)
			text := slices.Clone(append(slices.Clone(all), all[:10]...)[at : at+length])
			if r.IntN(3) == 0 {
				text[r.IntN(length)] = 'A'
			}
			checkFind(t, s, p, string(text), found(all, text))
		}
		other := s.Copy()
		for range r.IntN(3) {
			other.Put(r.IntN(3000), 0xc1)
		}
		var want []snap.Row
		for row := range size.Rows {
			if a, b := snap.Line(s, p, row), snap.Line(other, p, row); a != b {
				want = append(want, snap.Row{N: row, Text: b})
			}
		}
		if got := snap.Diff(s, other, p); !slices.Equal(got, want) {
			t.Fatalf("%v, want %v", got, want)
		}
	}
}
