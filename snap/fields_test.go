package snap_test

import (
	"fmt"
	"math"
	"slices"
	"strings"
	"testing"

	"vitrine/api"
	"vitrine/attr"
	"vitrine/keys"
	"vitrine/snap"
	"vitrine/space"
	"vitrine/term"
)

func checkFields(t *testing.T, s *space.Space, want ...string) {
	t.Helper()
	if got := snap.Fields(s, newPage(t, 37)); !slices.Equal(got, want) {
		t.Fatalf("Fields: %q, want %q", got, want)
	}
}

// P26.2: a field of each kind.
func TestFieldOfEachKind(t *testing.T) {
	for bits := range byte(0x40) {
		f := attr.Of(bits)
		want := "0 2 U A"
		switch {
		case bits&0x30 == 0x30:
			want = "0 2 P N"
		case bits&0x20 != 0:
			want = "0 2 P A"
		case bits&0x10 != 0:
			want = "0 2 U N"
		}
		want += fmt.Sprint(" ", f.Display)
		if bits&1 != 0 {
			want += " M "
		} else {
			want += " - "
		}
		if f.Display != 3 {
			want += "AB  C"
		}
		checkFields(t, newScreen(t, 2, false, cells{2: attribute(bits), 3: char(0xc1), 4: char(0xc2), 7: char(0xc3)}), want)
	}
}

// P26.2: the fields by the positions of their attributes, with rows and columns of the size; their characters without trailing spaces.
func TestFields(t *testing.T) {
	checkFields(t, newScreen(t, 2, false, nil))
	checkFields(t, written(t, 0, "\xc1\xc2"))
	checkFields(t, nil)
	if l := snap.Fields(nil, nil); len(l) != 0 {
		t.Error(l)
	}
	// Without positions, or with spaces alone, the space before the characters is there.
	checkFields(t, newScreen(t, 2, false, cells{0: attribute(0x20), 1: attribute(0x10), 2: char(0x40), 3: char(0x1c), 4: char(0x0c), 5: attribute(0xd), 6: char(0xc1)}),
		"0 0 P A 0 - ", "0 1 U N 0 -  *", "0 5 U A 3 M ")
	// Over the end of a row, and around the screen.
	s := newScreen(t, 2, false, cells{79: attribute(0), 80: char(0xc1), 161: char(0xc2), 163: attribute(0x21), 1918: char(0xc3), 1919: char(0x41), 0: escape(0xc4), 2: char(0xff)})
	checkFields(t, s, "0 79 U A 0 - A"+strings.Repeat(" ", 80)+"B", "2 3 P A 0 M "+strings.Repeat(" ", 1754)+"C\u00a0\u2514")
	checkFields(t, newScreen(t, 2, false, cells{1919: attribute(0x3c), 0: char(0xc1)}), "23 79 P N 3 - ")
	checkFields(t, newScreen(t, 2, false, cells{1919: attribute(0x38), 0: char(0xc1)}), "23 79 P N 2 - A")
	checkFields(t, newScreen(t, 5, true, cells{131: attribute(0), 132: attribute(0x04), 133: char(0xc1), 3563: attribute(0)}), "0 131 U A 0 - ", "1 0 U A 1 - A", "26 131 U A 0 - ")
	// The characters are the page's, and a nil page is page 37.
	s = newScreen(t, 2, false, cells{0: attribute(0), 1: char(0xc0)})
	for p, want := range map[int]string{37: "{", 273: "ä", 297: "é"} {
		if l := snap.Fields(s, newPage(t, p)); len(l) != 1 || l[0] != "0 0 U A 0 - "+want {
			t.Errorf("page %d: %q", p, l)
		}
	}
	if l := snap.Fields(s, nil); len(l) != 1 || l[0] != "0 0 U A 0 - {" {
		t.Errorf("%q", l)
	}
}

// P26.2: a screen of attributes alone has as many fields as positions.
func TestManyFields(t *testing.T) {
	s := newScreen(t, 5, true, nil)
	var want []string
	for n := range 3564 {
		s.Set(n, attribute(1))
		want = append(want, fmt.Sprint(n/132, " ", n%132, " U A 0 M "))
	}
	checkFields(t, s, want...)
}

// P26.2: Status has the word for each lock, and ? for any other number.
func TestStatusOfLocks(t *testing.T) {
	for lock, want := range map[int]string{0: "free", 1: "wait", 2: "protected", 3: "numeric", 4: "overflow", 5: "?", -1: "?", 6: "?", 256: "?", 1 << 32: "?", math.MaxInt: "?", math.MinInt: "?"} {
		if got := snap.Status(term.State{Lock: lock, AID: 0x60, Cursor: 81}); got != want+" None 81" {
			t.Errorf("%d: %q", lock, got)
		}
		if got := snap.Status(term.State{Lock: lock, AID: 0x60, Cursor: 81, Inserts: true}); got != want+" ins None 81" {
			t.Errorf("%d: %q", lock, got)
		}
	}
}

// P26.2: Status has the name of each AID, which is empty where there is none.
func TestStatusOfAIDs(t *testing.T) {
	named := 0
	for aid := range 256 {
		name := keys.Name(byte(aid))
		if name != "" {
			named++
		}
		if got := snap.Status(term.State{AID: byte(aid)}); got != "free "+name+" 0" {
			t.Errorf("%x: %q", aid, got)
		}
	}
	if named != 24+3+4 {
		t.Error(named)
	}
	for aid, want := range map[byte]string{0x7d: "Enter", 0xf3: "PF3", 0x4c: "PF24", 0x6b: "PA3", 0x6d: "Clear", 0x7e: "Select", 0x60: "None"} {
		if got := snap.Status(term.State{Lock: 1, Inserts: true, AID: aid, Cursor: 4}); got != "wait ins "+want+" 4" {
			t.Errorf("%x: %q", aid, got)
		}
	}
}

// P26.2: Status has the cursor's position, and no other part of the state.
func TestStatusOfCursors(t *testing.T) {
	for cursor, want := range map[int]string{0: "0", 9: "9", 3563: "3563", -1: "-1", math.MaxInt: "9223372036854775807", math.MinInt: "-9223372036854775808"} {
		if got := snap.Status(term.State{Model: 5, Page: 273, Alt: true, Mode: 2, AID: 0x60, Cursor: cursor}); got != "free None "+want {
			t.Errorf("%d: %q", cursor, got)
		}
	}
	x, _ := term.New(2, 37)
	if got := snap.Status(x.State()); got != "free None 0" {
		t.Errorf("%q", got)
	}
	if got := snap.Status(term.State{}); got != "free  0" {
		t.Errorf("%q", got)
	}
}

func checkDiff(t *testing.T, a, b *space.Space, want ...snap.Row) {
	t.Helper()
	if got := snap.Diff(a, b, newPage(t, 37)); !slices.Equal(got, want) {
		t.Fatalf("Diff: %v, want %v", got, want)
	}
}

// P26.2: Diff returns the rows of b whose lines differ.
func TestDiff(t *testing.T) {
	a := newScreen(t, 2, false, cells{0: attribute(0), 1: char(0xc1), 81: char(0xc2), 1919: char(0xc3)})
	checkDiff(t, a, a)
	checkDiff(t, a, a.Copy())
	b := a.Copy()
	write(b, 81, "\xc4")
	checkDiff(t, a, b, snap.Row{N: 1, Text: " D"})
	checkDiff(t, b, a, snap.Row{N: 1, Text: " B"})
	write(b, 1919, "\x00")
	write(b, 79, "\xc5")
	last := strings.Repeat(" ", 79)
	checkDiff(t, a, b, snap.Row{N: 0, Text: " A" + last[:77] + "E"}, snap.Row{N: 1, Text: " D"}, snap.Row{N: 23})
	checkDiff(t, b, a, snap.Row{N: 0, Text: " A"}, snap.Row{N: 1, Text: " B"}, snap.Row{N: 23, Text: last + "C"})
	// Lines that look the same are the same, whatever the cells are, and wherever the cursor is.
	b = a.Copy()
	b.Set(0, attribute(0x31))
	b.Set(2, char(0x40))
	b.Set(500, attribute(0x20))
	b.Set(81, api.Cell{Char: 0xc2, Color: 0xf2})
	b.Place(9)
	checkDiff(t, a, b)
	// A hidden field goes around the screen.
	b.Set(500, attribute(hidden))
	checkDiff(t, a, b, snap.Row{N: 23})
	// The page matters.
	a, b = written(t, 0, "\xc0"), written(t, 0, "\x51")
	if l := snap.Diff(a, b, newPage(t, 297)); len(l) != 1 || l[0] != (snap.Row{Text: "{"}) {
		t.Error(l)
	}
	if l := snap.Diff(a, b, nil); len(l) != 1 || l[0] != (snap.Row{Text: "é"}) {
		t.Error(l)
	}
}

// P26.2: of unlike sizes all rows of b are told; the models do not matter.
func TestDiffOfUnlikeSizes(t *testing.T) {
	rows := map[int]int{2: 24, 3: 32, 4: 43, 5: 27}
	for model := 2; model <= 5; model++ {
		for other := 2; other <= 5; other++ {
			a, b := newScreen(t, model, true, nil), newScreen(t, other, true, cells{80: char(0xc1)})
			l := snap.Diff(a, b, nil)
			if model == other {
				if len(l) != 1 || l[0].Text == "" {
					t.Errorf("model %d: %v", model, l)
				}
				continue
			}
			if len(l) != rows[other] || l[len(l)-1] != (snap.Row{N: rows[other] - 1}) || strings.TrimLeft(l[80/b.Size().Cols].Text, " ") != "A" {
				t.Errorf("models %d and %d: %v", model, other, l)
			}
		}
	}
	checkDiff(t, newScreen(t, 3, false, nil), newScreen(t, 5, false, nil))
	checkDiff(t, newScreen(t, 2, false, nil), newScreen(t, 2, true, nil))
	if l := snap.Diff(newScreen(t, 3, false, nil), newScreen(t, 3, true, nil), nil); len(l) != 32 {
		t.Error(l)
	}
}

// P26.2: of nil screens there are no rows.
func TestDiffOfNil(t *testing.T) {
	s := written(t, 0, "\xc1")
	for _, l := range [][]snap.Row{snap.Diff(nil, nil, nil), snap.Diff(s, nil, nil), snap.Diff(nil, s, nil), snap.Diff(nil, s, newPage(t, 37))} {
		if len(l) != 0 {
			t.Error(l)
		}
	}
}
