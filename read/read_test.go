package read_test

import (
	"math"
	"strings"
	"testing"

	"vitrine/api"
	"vitrine/read"
	"vitrine/space"
	"vitrine/write"
)

// checkError sees that there is this error, and nothing beside it.
func checkError(t *testing.T, what string, p []byte, e, want api.Errno) {
	t.Helper()
	if len(p) != 0 || e != want {
		t.Fatalf("%s: %x, %d, want %d", what, p, e, want)
	}
}

// P19.1: the chapter's example.
func TestExample(t *testing.T) {
	s := lay(t, cells{0: field(0x01), 1: char(0xc1), 3: char(0xc2)})
	p, e := read.Modified(s, 0x7d, 0)
	checkRead(t, "example", p, e, "\x7d\x40\xc2\x11\x40\xc1\xc1\xc2")
}

// P19.1: a nil space is told whatever the AID and the mode are.
func TestNilSpace(t *testing.T) {
	for _, r := range readers() {
		for _, mode := range append(wrongModes(), 0, 1, 2) {
			for _, aid := range []byte{0x7d, 0x60, 0x6c, 0x6d, 0} {
				p, e := r.read(nil, aid, mode)
				checkError(t, r.name, p, e, api.ErrNone)
				p, e = read.For(nil, r.command, aid, mode)
				checkError(t, "For "+r.name, p, e, api.ErrNone)
			}
			if read.Length(nil, mode) != 0 {
				t.Errorf("Length is %d", read.Length(nil, mode))
			}
		}
	}
	if read.Most(nil) != 3 {
		t.Errorf("Most is %d", read.Most(nil))
	}
}

// P19.1: a mode that there is not, also where the read is short.
func TestWrongModes(t *testing.T) {
	for _, s := range []*space.Space{newScreen(t, 2, false), lay(t, cells{0: field(0x01), 1: char(0xc1)})} {
		before := s.Copy()
		for _, mode := range wrongModes() {
			for _, r := range readers() {
				for aid := range 256 {
					p, e := r.read(s, byte(aid), mode)
					checkError(t, r.name, p, e, api.ErrArg)
					p, e = read.For(s, r.command, byte(aid), mode)
					checkError(t, "For "+r.name, p, e, api.ErrArg)
				}
			}
			if got := read.Length(s, mode); got != 0 {
				t.Errorf("Length in mode %d is %d", mode, got)
			}
		}
		if !s.Same(before) {
			t.Error("the screen has changed")
		}
	}
}

// P19.1: the error of a command that asks for no read is told before a nil space and a wrong mode.
func TestOtherCommands(t *testing.T) {
	s := lay(t, cells{0: field(0x01), 1: char(0xc1)})
	others := []int{write.Nothing, write.Write, write.EraseWrite, write.EraseAlternate, write.EraseUnprotected, write.Structured,
		-1, 9, 0xf2, 0xf6, 0x6e, 2 + 256, 5 + 256, 6 + 1<<32, -5, math.MinInt, math.MaxInt}
	for _, command := range others {
		for _, mode := range append(wrongModes(), 0, 1, 2) {
			for _, aid := range []byte{0x7d, 0x6c, 0x6d} {
				p, e := read.For(s, command, aid, mode)
				checkError(t, "other", p, e, api.ErrCommand)
				p, e = read.For(nil, command, aid, mode)
				checkError(t, "other of nil", p, e, api.ErrCommand)
			}
		}
	}
}

// P19.1: each AID begins the data; that of a PA or of Clear is all that Modified sends.
func TestAIDs(t *testing.T) {
	for _, s := range []*space.Space{lay(t, cells{0: field(0x01), 1: char(0xc1)}), lay(t, cells{1: char(0xc1)})} {
		for i := range 256 {
			checkAll(t, s, byte(i))
		}
	}
	s := lay(t, cells{0: field(0x01), 1: char(0xc1)})
	for _, aid := range []string{"\x6c", "\x6e", "\x6b", "\x6d"} {
		for mode := range 3 {
			p, e := read.Modified(s, aid[0], mode)
			checkRead(t, "short", p, e, aid)
			p, e = read.All(s, aid[0], mode)
			checkRead(t, "never short", p, e, aid+"\x40\xc2\x11\x40\xc1\xc1")
			p, _ = read.Buffer(s, aid[0], mode)
			if len(p) < 1920 {
				t.Errorf("Buffer has %d bytes", len(p))
			}
		}
	}
	for _, aid := range []string{"\x7d", "\x7e", "\x60", "\xf1", "\x7c", "\x4a", "\x00", "\x6a", "\x6f"} {
		p, e := read.Modified(s, aid[0], 0)
		checkRead(t, "not short", p, e, aid+"\x40\xc2\x11\x40\xc1\xc1")
	}
}

// P19.1: the cursor at each position of each screen.
func TestCursor(t *testing.T) {
	eachScreen(t, func(s *space.Space) {
		s.Set(s.Size().Cells()/2, field(0))
		for n := range s.Size().Cells() {
			s.Place(n)
			p, e := read.Modified(s, 0x7d, 0)
			checkRead(t, "cursor", p, e, "\x7d"+to(n))
			p, e = read.All(s, 0x6d, 2)
			checkRead(t, "cursor", p, e, "\x6d"+to(n))
		}
		p, _ := read.Buffer(s, 0x60, 1)
		if string(p[:3]) != "\x60"+to(s.Size().Cells()-1) {
			t.Fatalf("the cursor is %x", p[:3])
		}
	})
}

// P19.1: each field attribute, with and without display attributes, in each mode.
func TestAttributes(t *testing.T) {
	for bits := range 64 {
		code := string([]byte{six(bits &^ 2)})
		plain := lay(t, cells{0: field(byte(bits)), 1: char(0xc1)})
		checkBuffer(t, "plain", plain, 0, "\x1d"+code+"\xc1\x00")
		for mode := 1; mode <= 2; mode++ {
			checkBuffer(t, "plain", plain, mode, "\x29\x01\xc0"+code+"\xc1\x00")
		}
		for _, v := range []struct {
			cell api.Cell
			sent string
		}{
			{api.Cell{High: 0xf4}, "\x29\x02\xc0" + code + "\x41\xf4"},
			{api.Cell{Color: 0xf2}, "\x29\x02\xc0" + code + "\x42\xf2"},
			{api.Cell{Set: 0xf1}, "\x29\x02\xc0" + code + "\x43\xf1"},
			{api.Cell{High: 0xf0, Set: 0xf1}, "\x29\x03\xc0" + code + "\x41\xf0\x43\xf1"},
			{api.Cell{High: 0xf8, Color: 0xf7, Set: 0xf1}, "\x29\x04\xc0" + code + "\x41\xf8\x42\xf7\x43\xf1"},
		} {
			v.cell.Attr, v.cell.FA = true, byte(bits)
			s := lay(t, cells{0: v.cell, 1: char(0xc1)})
			checkBuffer(t, "extended", s, 0, "\x1d"+code+"\xc1\x00")
			// What an attribute has is none of the character's after it.
			for mode := 1; mode <= 2; mode++ {
				checkBuffer(t, "extended", s, mode, v.sent+"\xc1\x00")
			}
		}
	}
}

// P19.1: each code, with and without a graphic escape; one that is the byte of an order is sent as 3f.
func TestCodes(t *testing.T) {
	for i := range 256 {
		code := byte(i)
		sent := string([]byte{code})
		if isOrder(code) {
			sent = "\x3f"
		}
		for mode := range 3 {
			before, behind := "\x08", ""
			if mode == 2 {
				before, behind = "\x28\x43\xf1", "\x28\x43\x00"
			}
			s := lay(t, cells{0: char(code), 1: escape(code), 2: char(0xc1)})
			checkBuffer(t, "codes", s, mode, sent+before+sent+behind+"\xc1")
			formatted := lay(t, cells{0: field(0x01), 1: char(code), 2: escape(code), 3: char(0xc1)})
			if code == 0 {
				checkChanged(t, "null", s, mode, "\xc1")
				checkChanged(t, "null", formatted, mode, "\x11\x40\xc1\xc1")
				continue
			}
			checkChanged(t, "codes", s, mode, sent+before+sent+behind+"\xc1")
			checkChanged(t, "codes", formatted, mode, "\x11\x40\xc1"+sent+before+sent+behind+"\xc1")
		}
	}
}

// P19.1: only the set f1 is a graphic escape; a cell whose display attributes are none of layer 5's is sent as it is.
func TestOtherSets(t *testing.T) {
	s := lay(t, cells{0: {Char: 0xc1, Set: 0xf0}, 1: {Char: 0xc2, High: 0x11, Color: 0x99, Set: 0x08}, 2: {Attr: true, High: 0x05, Color: 0xff}})
	for mode := range 2 {
		checkBuffer(t, "sets", s, mode, "\xc1\xc2"+[]string{"\x1d\x40", "\x29\x03\xc0\x40\x41\x05\x42\xff"}[mode])
	}
	checkBuffer(t, "sets", s, 2, "\x28\x43\xf0\xc1\x28\x41\x11\x28\x42\x99\x28\x43\x08\xc2\x29\x03\xc0\x40\x41\x05\x42\xff\x28\x41\x00\x28\x42\x00\x28\x43\x00\x00\x00")
}

// P19.1: modified fields, where they are and what is in them.
func TestModifiedFields(t *testing.T) {
	a, b, c := char(0xc1), char(0xc2), char(0xc3)
	on, off := field(0x01), field(0x00)
	for _, v := range []struct {
		what string
		l    cells
		want string
	}{
		{"none", cells{0: off, 1: a}, ""},
		{"at the first place", cells{0: on, 1: a, 3: b, 4: off, 5: c}, "\x11" + to(1) + "\xc1\xc2"},
		{"at the last place", cells{1919: on, 0: a, 2: b, 4: off, 5: c}, "\x11" + to(0) + "\xc1\xc2"},
		{"at the last place alone", cells{1919: on, 0: a, 1918: b}, "\x11" + to(0) + "\xc1\xc2"},
		{"across the end", cells{1916: on, 1917: a, 1919: b, 0: c, 2: a, 3: off, 4: b}, "\x11" + to(1917) + "\xc1\xc2\xc3\xc1"},
		{"alone in the middle", cells{900: on, 901: a, 899: c, 0: b}, "\x11" + to(901) + "\xc1\xc2\xc3"},
		{"no characters", cells{5: on, 6: off, 7: a}, "\x11" + to(6)},
		{"no characters at the end", cells{1919: on, 0: off, 1: a}, "\x11" + to(0)},
		{"nulls only", cells{5: on, 9: off, 10: a}, "\x11" + to(6)},
		{"two", cells{0: on, 1: a, 2: on, 3: b, 4: off, 5: c}, "\x11" + to(1) + "\xc1\x11" + to(3) + "\xc2"},
		{"two without characters", cells{0: on, 1: on, 2: off, 3: a}, "\x11" + to(1) + "\x11" + to(2)},
		{"one between", cells{0: on, 1: a, 2: off, 3: b, 4: on, 5: c, 6: off}, "\x11" + to(1) + "\xc1\x11" + to(5) + "\xc3"},
		{"before the first one", cells{0: a, 5: off, 6: b, 8: on, 9: c}, "\x11" + to(9) + "\xc3\xc1"},
		{"order of attributes", cells{1919: on, 0: a, 5: on, 6: b, 7: off}, "\x11" + to(6) + "\xc2\x11" + to(0) + "\xc1"},
		{"protected", cells{0: field(0x21), 1: a, 2: field(0x31), 3: b, 4: field(0x20)}, "\x11" + to(1) + "\xc1\x11" + to(3) + "\xc2"},
		{"hidden", cells{0: field(0x0d), 1: a, 2: field(0x0c), 3: b}, "\x11" + to(1) + "\xc1"},
		{"numeric", cells{0: field(0x11), 1: a, 2: field(0x10), 3: b}, "\x11" + to(1) + "\xc1"},
		{"blanks", cells{0: on, 1: char(0x40), 2: a, 3: char(0x40), 5: off}, "\x11" + to(1) + "\x40\xc1\x40"},
	} {
		for mode := range 3 {
			checkChanged(t, v.what, lay(t, v.l), mode, v.want)
		}
	}
}

// P19.2: each combination of eight fields, modified or not: each modified one once, in order, and no other.
func TestEachFieldOnce(t *testing.T) {
	for set := range 256 {
		l := cells{}
		want := ""
		for i := range 8 {
			modified := byte(set>>i) & 1
			l[200*i] = field(modified | 0x20*byte(i&1))
			l[200*i+7] = char(0xc1 + byte(i))
			if modified != 0 {
				want += "\x11" + to(200*i+1) + string([]byte{0xc1 + byte(i)})
			}
		}
		checkChanged(t, "fields", lay(t, l), set%3, want)
	}
}

// P19.1: a screen without fields, whatever is on it: its characters from 0 on, without an address.
func TestUnformatted(t *testing.T) {
	for mode := range 3 {
		checkChanged(t, "empty", lay(t, nil), mode, "")
		checkChanged(t, "ends", lay(t, cells{0: char(0xc1), 1919: char(0xc2)}), mode, "\xc1\xc2")
		checkChanged(t, "middle", lay(t, cells{79: char(0xc1), 80: char(0x40), 82: char(0xc2)}), mode, "\xc1\x40\xc2")
	}
	s := lay(t, cells{5: {Char: 0xc1, Color: 0xf1}, 6: {Color: 0xf2}, 7: {Char: 0xc2, Color: 0xf1}, 9: escape(0xc5)})
	checkChanged(t, "mode 0", s, 0, "\xc1\xc2\x08\xc5")
	checkChanged(t, "mode 1", s, 1, "\xc1\xc2\x08\xc5")
	checkChanged(t, "mode 2", s, 2, "\x28\x42\xf1\xc1\xc2\x28\x42\x00\x28\x43\xf1\xc5")
}

// P19.1: in mode 2 each display attribute is sent where it changes, and where it changes back.
func TestChanges(t *testing.T) {
	for _, v := range []struct {
		kind string
		of   func(value byte) api.Cell
	}{
		{"\x28\x41", func(value byte) api.Cell { return api.Cell{Char: 0xc1, High: value} }},
		{"\x28\x42", func(value byte) api.Cell { return api.Cell{Char: 0xc1, Color: value} }},
		{"\x28\x43", func(value byte) api.Cell { return api.Cell{Char: 0xc1, Set: value} }},
	} {
		s := lay(t, cells{0: v.of(0), 1: v.of(0xf1), 2: v.of(0xf1), 3: v.of(0), 4: v.of(0), 5: v.of(0xf1), 6: v.of(0)})
		want := "\xc1" + v.kind + "\xf1\xc1\xc1" + v.kind + "\x00\xc1\xc1" + v.kind + "\xf1\xc1" + v.kind + "\x00\xc1"
		checkBuffer(t, "changes", s, 2, want)
		checkChanged(t, "changes", s, 2, want)
	}
	all := api.Cell{Char: 0xc1, High: 0xf2, Color: 0xf3, Set: 0xf1}
	s := lay(t, cells{0: all, 1: char(0xc2), 2: {Char: 0xc3, High: 0xf4}, 3: {Char: 0xc4, Color: 0xf4}})
	want := "\x28\x41\xf2\x28\x42\xf3\x28\x43\xf1\xc1\x28\x41\x00\x28\x42\x00\x28\x43\x00\xc2\x28\x41\xf4\xc3\x28\x41\x00\x28\x42\xf4\xc4"
	checkBuffer(t, "all", s, 2, want+"\x28\x42\x00\x00\x00")
	checkChanged(t, "all", s, 2, want)
}

// P19.1: in mode 2 the last character that was sent counts, across fields; neither attributes nor nulls that are left out do.
func TestChangesAcrossFields(t *testing.T) {
	red, blue := api.Cell{Char: 0xc1, Color: 0xf2}, api.Cell{Char: 0xc2, Color: 0xf1}
	on := api.Cell{Attr: true, FA: 0x01, Color: 0xf1}
	off := api.Cell{Attr: true, Color: 0xf1}
	none := api.Cell{Color: 0xf1}
	s := lay(t, cells{0: on, 1: red, 2: none, 3: off, 4: blue, 5: on, 6: none, 7: red, 8: on, 9: on, 10: blue, 11: off})
	checkChanged(t, "carried", s, 2, "\x11"+to(1)+"\x28\x42\xf2\xc1\x11"+to(6)+"\xc1\x11"+to(9)+"\x11"+to(10)+"\x28\x42\xf1\xc2")
	attribute := func(code string) string { return "\x29\x02\xc0" + code + "\x42\xf1" }
	checkBuffer(t, "carried", s, 2, attribute("\xc1")+"\x28\x42\xf2\xc1\x28\x42\xf1\x00"+attribute("\x40")+"\xc2"+attribute("\xc1")+
		"\x00\x28\x42\xf2\xc1"+attribute("\xc1")+attribute("\xc1")+"\x28\x42\xf1\xc2"+attribute("\x40")+"\x28\x42\x00\x00\x00")
	for mode := range 2 {
		checkChanged(t, "not told", s, mode, "\x11"+to(1)+"\xc1\x11"+to(6)+"\xc1\x11"+to(9)+"\x11"+to(10)+"\xc2")
	}
}

// P19.1: Most of each size, and the longest data that a screen may have, where each character differs from the one before it, or each cell is an attribute with all that it can have.
func TestMost(t *testing.T) {
	eachScreen(t, func(s *space.Space) {
		size := s.Size().Cells()
		if got := read.Most(s); got != 3+11*size {
			t.Errorf("Most of %d is %d", size, got)
		}
		full := api.Cell{Char: 0xc1, High: 0xf4, Color: 0xf7, Set: 0xf1}
		for n := range size {
			s.Set(n, char(0xc2))
			if n%2 == 0 {
				s.Set(n, full)
			}
		}
		checkAll(t, s, 0x7d)
		full.Attr, full.FA = true, 0x3d
		for n := range size {
			s.Set(n, full)
		}
		checkAll(t, s, 0x7d)
		if got := read.Length(s, 2); got != 3+10*size {
			t.Errorf("Length is %d", got)
		}
	})
}

// P19.1: Length by some fixed numbers.
func TestLength(t *testing.T) {
	s := lay(t, cells{0: field(0x01), 1: escape(0xc5), 2: char(0xc1), 3: {Attr: true, High: 0xf1}})
	for mode, want := range []int{3 + 1916 + 2 + 2 + 1 + 2, 3 + 1916 + 4 + 2 + 1 + 6, 3 + 1916 + 4 + 4 + 4 + 6} {
		if got := read.Length(s, mode); got != want {
			t.Errorf("Length in mode %d is %d, want %d", mode, got, want)
		}
	}
}

// The rule of memory: each answer is new.
func TestMemory(t *testing.T) {
	s := lay(t, cells{0: field(0x01), 1: escape(0xc5), 2: char(0xc1)})
	for _, r := range readers() {
		for mode := range 3 {
			for _, aid := range []byte{0x7d, 0x6d} {
				first, _ := r.read(s, aid, mode)
				second, _ := r.read(s, aid, mode)
				want := strings.Clone(string(second))
				whole := first[:cap(first)]
				for i := range whole {
					whole[i] = 0x99
				}
				third, e := r.read(s, aid, mode)
				checkRead(t, "again", second, e, want)
				checkRead(t, "again", third, e, want)
			}
		}
	}
}
