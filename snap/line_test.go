package snap_test

import (
	"math"
	"slices"
	"strings"
	"testing"

	"vitrine/snap"
)

// P26.1: a line is the displayed characters of a row, as UTF-8, without trailing spaces.
func TestLine(t *testing.T) {
	p := newPage(t, 37)
	// The chapter's example.
	checkLine(t, newScreen(t, 2, false, cells{0: attribute(0), 1: char(0xc1), 2: char(0xc2), 4: char(0xc3)}), p, 0, " AB C")
	s := written(t, 78, "\xc1\x43\xc2\x00\x40\xc3\x40\x00\x15\xff")
	checkLine(t, s, p, 0, strings.Repeat(" ", 78)+"Aä")
	checkLine(t, s, p, 1, "B  C")
	checkLine(t, s, p, 2, "")
	s = written(t, 1900, strings.Repeat("\xc4", 20))
	checkLine(t, s, p, 23, strings.Repeat(" ", 60)+strings.Repeat("D", 20))
	// A no-break space is no space; attributes and hidden characters are.
	s = newScreen(t, 2, false, cells{0: char(0xc1), 1: char(0x41), 2: char(0x40), 3: attribute(0x20), 80: char(0xc1), 81: attribute(hidden), 82: char(0xc2), 1919: attribute(0)})
	checkLine(t, s, p, 0, "A\u00a0")
	checkLine(t, s, p, 1, "A")
	// The field of the row above goes on, up to the first attribute.
	s = newScreen(t, 2, false, cells{70: attribute(hidden), 79: char(0xc1), 80: char(0xc2), 81: attribute(0), 82: char(0xc3), 84: escape(0x8a), 90: attribute(hidden), 91: char(0xc4), 92: attribute(0xd), 93: char(0xc5), 95: attribute(4), 96: char(0x82)})
	checkLine(t, s, p, 0, "")
	checkLine(t, s, p, 1, "  C ↑"+strings.Repeat(" ", 11)+"b")
}

// P26.1, layer 4: a row is taken modulo the number of rows, of each size.
func TestLineOfAnyRow(t *testing.T) {
	p := newPage(t, 500)
	for model := 2; model <= 5; model++ {
		s := newScreen(t, model, true, nil)
		rows := s.Size().Rows
		var want []string
		for row := range rows {
			s.Put(s.Size().At(row, row), byte(0xc1+row%9))
			s.Put(s.Size().At(row, -1), 0xf0)
			want = append(want, strings.Repeat(" ", row)+string(rune('A'+row%9))+strings.Repeat(" ", s.Size().Cols-row-2)+"0")
		}
		for _, row := range []int{0, 1, rows - 1, rows, rows + 1, 3*rows + 2, -1, -rows, -rows - 1, 1000, math.MaxInt, math.MinInt} {
			checkLine(t, s, p, row, want[(row%rows+rows)%rows])
		}
		var lines []string
		for row, line := range snap.Lines(s, p) {
			if row != len(lines) {
				t.Fatal(row)
			}
			lines = append(lines, line)
		}
		if !slices.Equal(lines, want) {
			t.Errorf("model %d: %q", model, lines)
		}
		if text := snap.Text(s, p); text != strings.Join(want, "\n")+"\n" {
			t.Errorf("model %d: %q", model, text)
		}
	}
}

// P26.1: all lines, also empty ones, each followed by a line's end in the text.
func TestLinesAndText(t *testing.T) {
	s := newScreen(t, 5, false, nil)
	if text := snap.Text(s, nil); text != strings.Repeat("\n", 24) {
		t.Errorf("%q", text)
	}
	write(s, 80, "\xc1")
	write(s, 1919, "\xc0")
	if text := snap.Text(s, newPage(t, 273)); text != "\nA"+strings.Repeat("\n", 22)+strings.Repeat(" ", 79)+"ä\n" {
		t.Errorf("%q", text)
	}
	if text := snap.Text(s, nil); text != "\nA"+strings.Repeat("\n", 22)+strings.Repeat(" ", 79)+"{\n" {
		t.Errorf("%q", text)
	}
	if text := snap.Text(nil, newPage(t, 37)) + snap.Text(nil, nil); text != "" {
		t.Errorf("%q", text)
	}
	for row, line := range snap.Lines(nil, nil) {
		t.Error(row, line)
	}
	for _, row := range []int{0, -1, 5, math.MinInt} {
		checkLine(t, nil, nil, row, "")
	}
}

// P26.1: Lines may be left before its end, and ranged over again; the screen is used as it is then.
func TestLinesLeft(t *testing.T) {
	p := newPage(t, 37)
	s := written(t, 0, "\xc1")
	lines := snap.Lines(s, p)
	for stop := range 24 {
		count := 0
		for row := range lines {
			count++
			if row == stop {
				break
			}
		}
		if count != stop+1 {
			t.Fatal(count)
		}
	}
	write(s, 0, "\xc2")
	var got []string
	for row, line := range lines {
		got = append(got, line)
		write(s, (row+1)*80, "\xc3")
	}
	if got[0] != "B" || got[1] != "C" || got[23] != "C" || len(got) != 24 {
		t.Errorf("%q", got)
	}
	// With another size the rows are those of that size.
	s = newScreen(t, 4, true, nil)
	count := 0
	for range snap.Lines(s, p) {
		if count++; count == 30 {
			s.Clear(false)
		}
	}
	if count != 30 {
		t.Error(count)
	}
}

// P26.1: Codes has each Char, and for an attribute its six bits between spaces.
func TestCodes(t *testing.T) {
	rest := func(n int) string {
		return strings.Repeat("00", n)
	}
	for _, c := range []struct {
		l    cells
		want string
	}{
		{nil, rest(1920)},
		{cells{0: char(0xc1), 1: char(0x0f), 2: char(0xf0), 3: char(0xff), 1919: char(0xab)}, "c10ff0ff" + rest(1915) + "ab"},
		{cells{0: attribute(0), 1: attribute(0x3d), 2: char(0x9a), 3: attribute(0x09)}, " 00  3d 9a 09 " + rest(1916)},
		{cells{1: attribute(hidden), 2: char(0xc1), 1919: attribute(0x20)}, "00 0c c1" + rest(1916) + " 20 "},
		{cells{0: escape(0xc5), 1: {Char: 0x12, High: 0xf1, Color: 0xf2}}, "c512" + rest(1918)},
		{cells{0: {Attr: true, FA: 0xff, Char: 0x55, Color: 0xf2}}, " 3d " + rest(1919)},
	} {
		if got := snap.Codes(newScreen(t, 2, false, c.l)); got != c.want {
			t.Errorf("%v: %.80s, want %.80s", c.l, got, c.want)
		}
	}
	for code := range 256 {
		got := snap.Codes(newScreen(t, 2, false, cells{0: char(byte(code))}))
		if got[:2] != string([]byte{"0123456789abcdef"[code/16], "0123456789abcdef"[code%16]}) {
			t.Errorf("%x: %s", code, got[:2])
		}
	}
	if got := snap.Codes(newScreen(t, 5, true, nil)); got != rest(3564) {
		t.Error(len(got))
	}
	if got := snap.Codes(nil); got != "" {
		t.Error(got)
	}
}
