package keys_test

import (
	"testing"

	"vitrine/api"
	"vitrine/keys"
	"vitrine/page"
)

var selectKey = keys.Key{Kind: keys.Select}

// selecting is a screen with one field at 5, whose first character is that code; the operator is at 8.
func selecting(bits, code byte) cells {
	return cells{0: field(0x20), 5: {Attr: true, FA: bits, High: 0xf1}, 6: {Char: code, Color: 0xf2, Set: 0xf1}, 7: char(0x6f), 8: char(0x6e), 9: field(0x20)}
}

// Select of each code as the first character, with each attribute, at the field's first and last position, on each page.
func TestSelectEach(t *testing.T) {
	for number := range page.Numbers() {
		for bits := range byte(64) {
			if bits&2 != 0 {
				continue // the unused bit is in no cell
			}
			for code := range 256 {
				for _, n := range []int{6, 8} {
					checkSelect(t, number, bits, byte(code), n)
				}
			}
		}
	}
}

// checkSelect goes by the chapter's words: by the character of the code on the page.
func checkSelect(t *testing.T, number int, bits, code byte, n int) {
	t.Helper()
	p := newPage(t, number)
	s := newScreen(t, selecting(bits, code), n)
	b := boardOf(t, s, number)
	detectable := bits&0x0c == 4 || bits&0x0c == 8
	protected := bits&0x20 != 0
	sign := p.Sign(code)
	becomes := map[rune]rune{'?': '>', '>': '?'}[sign]
	sends := map[rune]byte{0: 0x7e, ' ': 0x7e, '&': 0x7d}[sign]
	want := selecting(bits, code)
	switch {
	case detectable && becomes != 0 && !protected:
		want[6] = api.Cell{Char: codeOf(p, becomes), Color: 0xf2, Set: 0xf1}
		if sign == '?' {
			want[5] = api.Cell{Attr: true, FA: bits | 1, High: 0xf1}
		}
		press(t, b, selectKey, false, api.OK)
		checkState(t, "selected", b, state{0, false, 0x60})
	case detectable && sends != 0:
		want[5] = api.Cell{Attr: true, FA: bits | 1, High: 0xf1}
		press(t, b, selectKey, true, api.OK)
		checkState(t, "sent", b, state{1, false, sends})
	default:
		press(t, b, selectKey, false, api.ErrProtect)
		checkState(t, "refused", b, state{2, false, 0x60})
	}
	checkScreen(t, "Select", s, want, n)
}

// codeOf looks for a character among the codes of a page.
func codeOf(p *page.Page, sign rune) byte {
	for code := range 256 {
		if p.Sign(byte(code)) == sign {
			return byte(code)
		}
	}
	return 0
}

// Select at an attribute, without fields, and with a field around the screen.
func TestSelectPlaces(t *testing.T) {
	for _, n := range []int{5, 9, 0, 4} {
		s, b := on(t, selecting(0x04, 0x6f), n)
		press(t, b, selectKey, false, api.ErrProtect)
		checkState(t, "refused", b, state{2, false, 0x60})
		checkScreen(t, "refused", s, selecting(0x04, 0x6f), n)
	}
	for _, code := range []byte{0, 0x40, 0x6f, 0x6e, 0x50} {
		l := cells{0: char(code), 1: char(code), 5: char(code), 1919: char(code)}
		for _, n := range []int{0, 1, 5, 1919} {
			s, b := on(t, l, n)
			press(t, b, selectKey, false, api.ErrProtect)
			checkState(t, "without fields", b, state{2, false, 0x60})
			checkScreen(t, "without fields", s, l, n)
		}
	}
	for _, n := range []int{0, 2, 3} {
		s, b := on(t, cells{1919: field(0x08), 0: char(0x6f), 4: field(0x20)}, n)
		press(t, b, selectKey, false, api.OK)
		checkScreen(t, "around the screen", s, cells{1919: field(0x09), 0: char(0x6e), 4: field(0x20)}, n)
	}
	for _, n := range []int{1919, 0, 3} {
		s, b := on(t, cells{1918: field(0x08), 1919: char(0x50), 0: char(0x6f), 4: field(0x20)}, n)
		press(t, b, selectKey, true, api.OK)
		checkScreen(t, "around the screen", s, cells{1918: field(0x09), 1919: char(0x50), 0: char(0x6f), 4: field(0x20)}, n)
	}
}

// A field that was selected and is no more stays modified; selected again, it looks as at first.
func TestSelectTwice(t *testing.T) {
	s, b := on(t, selecting(0x04, 0x6f), 8)
	for _, code := range []byte{0x6e, 0x6f, 0x6e, 0x6f} {
		press(t, b, selectKey, false, api.OK)
		checkScreen(t, "selected", s, selecting(0x05, code), 8)
	}
	s, b = on(t, selecting(0x04, 0x6e), 8)
	press(t, b, selectKey, false, api.OK)
	checkScreen(t, "no more selected", s, selecting(0x04, 0x6f), 8)
}

// The insert mode ends if an AID is sent, and stays otherwise.
func TestSelectInInsertMode(t *testing.T) {
	for code, want := range map[byte]struct {
		sent bool
		e    api.Errno
		state
	}{
		0x6f: {false, api.OK, state{0, true, 0x60}}, 0x6e: {false, api.OK, state{0, true, 0x60}}, 0xc1: {false, api.ErrProtect, state{2, true, 0x60}},
		0x00: {true, api.OK, state{1, false, 0x7e}}, 0x40: {true, api.OK, state{1, false, 0x7e}}, 0x50: {true, api.OK, state{1, false, 0x7d}},
	} {
		_, b := on(t, selecting(0x08, code), 6)
		do(t, b, keys.Insert)
		press(t, b, selectKey, want.sent, want.e)
		checkState(t, "Select", b, want.state)
	}
}

// A field of one position is its own first character; other fields stay as they are.
func TestSelectShortField(t *testing.T) {
	l := cells{0: field(0x04), 1: char(0x6f), 2: field(0x04), 3: char(0x6f), 4: field(0x04), 5: char(0x6f), 6: field(0x20)}
	s, b := on(t, l, 3)
	press(t, b, selectKey, false, api.OK)
	l[2], l[3] = field(0x05), char(0x6e)
	checkScreen(t, "one position", s, l, 3)
}
