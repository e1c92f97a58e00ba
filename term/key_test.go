package term_test

import (
	"math"
	"strings"
	"testing"

	"vitrine/api"
	"vitrine/keys"
	"vitrine/term"
)

// ready makes a terminal with two unprotected fields, at 0 with A and at 5 with what can be selected, and a protected one at 9; the cursor is at 1.
func ready(t *testing.T) *term.Term {
	t.Helper()
	x := newTerm(t, 5, 37)
	hostSends(t, x, "\x7e\x40\x1d\x40\x13\xc1\x11\x40\xc5\x1d\xc4\x00\x00\xc2\x1d\x60\xc3", api.OK)
	x.Tally().Reset()
	return x
}

// P23.1: every key that sends, and what it sends.
func TestSendingKeys(t *testing.T) {
	type sending struct {
		key  keys.Key
		aid  byte
		bare bool
	}
	l := []sending{{keys.Key{Kind: keys.Enter}, 0x7d, false}, {keys.Key{Kind: keys.PA, N: 1}, 0x6c, true}, {keys.Key{Kind: keys.PA, N: 2}, 0x6e, true},
		{keys.Key{Kind: keys.PA, N: 3}, 0x6b, true}, {keys.Key{Kind: keys.Clear}, 0x6d, true}}
	for i, aid := range []byte("\xf1\xf2\xf3\xf4\xf5\xf6\xf7\xf8\xf9\x7a\x7b\x7c\xc1\xc2\xc3\xc4\xc5\xc6\xc7\xc8\xc9\x4a\x4b\x4c") {
		l = append(l, sending{keys.Key{Kind: keys.PF, N: i + 1}, aid, false})
	}
	for _, one := range l {
		x := ready(t)
		types(t, x, "x", 1, api.OK)
		press(t, x, keys.Key{Kind: keys.Insert}, "", api.OK)
		sent := string([]byte{one.aid})
		if !one.bare {
			sent += "\x40\xc2\x11\x40\xc1\xa7"
		}
		press(t, x, one.key, sent, api.OK)
		want := term.State{Model: 5, Page: 37, Alt: true, Cursor: 2, Lock: 1, AID: one.aid}
		screen := newScreen(t, 5, true, cells{0: field(1), 1: char(0xa7), 5: field(4), 8: char(0xc2), 9: field(0x20), 10: char(0xc3)}, 2)
		if one.key.Kind == keys.Clear {
			want.Alt, want.Cursor = false, 0
			screen.Clear(false)
		}
		checkState(t, sent, x, want)
		checkScreen(t, sent, x, screen)
		checkCounts(t, sent, x, 0, 3, 1, 0, 0, 0)
		press(t, x, one.key, "", api.ErrLocked)
		checkState(t, "locked", x, want)
		checkCounts(t, "locked", x, 0, 4, 1, 0, 1, 0)
	}
}

// P23.1: Select sends where the first character says so, and otherwise does not.
func TestSelect(t *testing.T) {
	for _, c := range []struct {
		first, becomes byte
		sent           string
		modified       byte
	}{
		{0x6f, 0x6e, "", 1},
		{0x6e, 0x6f, "", 0},
		{0x00, 0x00, "\x7e\x40\xc7\x11\x40\xc6\xc2", 1},
		{0x40, 0x40, "\x7e\x40\xc7\x11\x40\xc6\x40\xc2", 1},
		{0x50, 0x50, "\x7d\x40\xc7\x11\x40\xc6\x50\xc2", 1},
	} {
		x := ready(t)
		hostSends(t, x, "\xf1\x00\x11\x40\xc6"+string([]byte{c.first})+"\x13", api.OK)
		x.Tally().Reset()
		press(t, x, keys.Key{Kind: keys.Select}, c.sent, api.OK)
		screen := newScreen(t, 5, true, cells{0: field(0), 1: char(0xc1), 5: field(4 + c.modified), 6: char(c.becomes), 8: char(0xc2), 9: field(0x20), 10: char(0xc3)}, 7)
		checkScreen(t, "Select", x, screen)
		sent := uint64(0)
		if c.sent != "" {
			sent = 1
		}
		if s := x.State(); s.Lock != int(sent) {
			t.Errorf("after Select of %x the lock is %d", c.first, s.Lock)
		}
		checkCounts(t, "Select", x, 0, 1, sent, 0, 0, 0)
	}
	x := ready(t)
	press(t, x, keys.Key{Kind: keys.Select}, "", api.ErrProtect)
	checkCounts(t, "Select elsewhere", x, 0, 1, 0, 0, 1, 0)
}

// P23.1: each other key, with what it does and without; none of them sends anything.
func TestOtherKeys(t *testing.T) {
	base := func(changes cells) cells {
		l := cells{0: field(0), 1: char(0xc1), 5: field(4), 8: char(0xc2), 9: field(0x20), 10: char(0xc3)}
		for n, c := range changes {
			l[n] = c
		}
		return l
	}
	for _, c := range []struct {
		key     keys.Key
		changes cells
		cursor  int
		e       api.Errno
	}{
		{keys.Key{Kind: keys.Char, Sign: 'b'}, cells{0: field(1), 1: char(0x82)}, 2, api.OK},
		{keys.Key{Kind: keys.Char, Sign: 0x3b1}, nil, 1, api.ErrSign},
		{keys.Key{Kind: keys.Char}, nil, 1, api.ErrSign},
		{keys.Key{Kind: keys.Code, N: 0xe9}, cells{0: field(1), 1: char(0xe9)}, 2, api.OK},
		{keys.Key{Kind: keys.Code, N: 0x11}, nil, 1, api.ErrArg},
		{keys.Key{Kind: keys.Code, N: 256 + 0xc1}, nil, 1, api.ErrArg},
		{keys.Key{Kind: keys.Dup}, cells{0: field(1), 1: char(0x1c)}, 6, api.OK},
		{keys.Key{Kind: keys.FieldMark}, cells{0: field(1), 1: char(0x1e)}, 2, api.OK},
		{keys.Key{Kind: keys.Tab}, nil, 6, api.OK},
		{keys.Key{Kind: keys.BackTab}, nil, 6, api.OK},
		{keys.Key{Kind: keys.NewLine}, nil, 1, api.OK},
		{keys.Key{Kind: keys.Home}, nil, 1, api.OK},
		{keys.Key{Kind: keys.Up}, nil, 3433, api.OK},
		{keys.Key{Kind: keys.Down}, nil, 133, api.OK},
		{keys.Key{Kind: keys.Left}, nil, 0, api.OK},
		{keys.Key{Kind: keys.Right}, nil, 2, api.OK},
		{keys.Key{Kind: keys.Delete}, cells{0: field(1), 1: char(0)}, 1, api.OK},
		{keys.Key{Kind: keys.EraseEOF}, cells{0: field(1), 1: char(0)}, 1, api.OK},
		{keys.Key{Kind: keys.EraseInput}, cells{1: char(0), 8: char(0)}, 1, api.OK},
		{keys.Key{Kind: keys.Reset}, nil, 1, api.OK},
		{keys.Key{Kind: keys.PF}, nil, 1, api.ErrArg},
		{keys.Key{Kind: keys.PF, N: 25}, nil, 1, api.ErrArg},
		{keys.Key{Kind: keys.PA}, nil, 1, api.ErrArg},
		{keys.Key{Kind: keys.PA, N: 4}, nil, 1, api.ErrArg},
		{keys.Key{}, nil, 1, api.ErrArg},
		{keys.Key{Kind: -1, Sign: 'A', N: 1}, nil, 1, api.ErrArg},
		{keys.Key{Kind: keys.Clear + 1, Sign: 'A', N: 1}, nil, 1, api.ErrArg},
		{keys.Key{Kind: math.MaxInt, Sign: 'A', N: 1}, nil, 1, api.ErrArg},
	} {
		x := ready(t)
		press(t, x, c.key, "", c.e)
		checkState(t, "a key", x, term.State{Model: 5, Page: 37, Alt: true, Cursor: c.cursor, AID: 0x60})
		checkScreen(t, "a key", x, newScreen(t, 5, true, base(c.changes), c.cursor))
		refused := uint64(0)
		if c.e != api.OK {
			refused = 1
		}
		checkCounts(t, "a key", x, 0, 1, 0, 0, refused, 0)
	}
}

// P23.1: while the keyboard waits every key but Reset is refused, and counted.
func TestLockedKeys(t *testing.T) {
	x := busy(t, 5)
	for kind := keys.Char; kind <= keys.Clear; kind++ {
		e := api.ErrLocked
		if kind == keys.Reset {
			e = api.OK
		}
		press(t, x, keys.Key{Kind: kind, Sign: 'A', N: 1}, "", e)
		checkBusy(t, "a locked key", x)
	}
	checkCounts(t, "locked keys", x, 0, 22, 0, 0, 21, 0)
	press(t, x, keys.Key{Kind: keys.Clear + 1}, "", api.ErrArg)
	checkCounts(t, "no key", x, 0, 23, 0, 0, 22, 0)
}

// P23.1: what is sent is in the reply mode.
func TestKeyModes(t *testing.T) {
	for mode, body := range []string{"\xc1\x08\xc5\xa7", "\xc1\x08\xc5\xa7", "\x28\x41\xf2\x28\x42\xf3\xc1\x28\x43\xf1\xc5\x28\x41\x00\x28\x42\x00\x28\x43\x00\xa7"} {
		x := newTerm(t, 2, 37)
		hostSends(t, x, "\xf5\x40\x1d\xc1\x28\x41\xf2\x28\x42\xf3\xc1\x08\xc5\x13", api.OK)
		hostSends(t, x, "\xf3"+modeField(byte(mode)), api.OK)
		types(t, x, "x", 1, api.OK)
		press(t, x, keys.Key{Kind: keys.PF, N: 1}, "\xf1\x40\xc4\x11\x40\xc1"+body, api.OK)
		press(t, x, keys.Key{Kind: keys.PF, N: 1}, "", api.ErrLocked)
		hostSends(t, x, "\xf1\x02", api.OK)
		press(t, x, keys.Key{Kind: keys.PA, N: 1}, "\x6c", api.OK)
	}
}

// P23.1: Type goes up to the first character that is not accepted; each character is a key.
func TestType(t *testing.T) {
	for _, c := range []struct {
		setup    string
		text     string
		accepted int
		e        api.Errno
	}{
		{"\xf5", "", 0, api.OK},
		{"\xf5", "A", 1, api.OK},
		{"\xf5", "Grüße 12", 8, api.OK},
		{"\xf5", "AB\u03b1C", 2, api.ErrSign},
		{"\xf5", "A\nB", 1, api.ErrSign},
		{"\xf5", "\x00", 0, api.ErrSign},
		{"\xf5", "ü\xffA", 1, api.ErrSign},
		{"\xf5", "A\xc3", 1, api.ErrSign},
		{"\xf5", "A\ufffdB", 1, api.ErrSign},
		{"\xf5\x40\x1d\x40\x13\x00\x00\x1d\x60", "ABCD", 2, api.ErrProtect},
		{"\xf5\x40\x1d\x60\x13", "AB", 0, api.ErrProtect},
		{"\xf5\x40\x1d\x50\x13", "12-.A3", 4, api.ErrNumeric},
	} {
		x := newTerm(t, 2, 37)
		hostSends(t, x, c.setup, api.OK)
		x.Tally().Reset()
		types(t, x, c.text, c.accepted, c.e)
		y := newTerm(t, 2, 37)
		hostSends(t, y, c.setup, api.OK)
		left := c.accepted
		for _, sign := range c.text {
			if left < 0 {
				break
			}
			e := api.OK
			if left == 0 {
				e = c.e
			}
			press(t, y, keys.Key{Kind: keys.Char, Sign: sign}, "", e)
			left--
		}
		if !x.Same(y) {
			t.Errorf("after Type(%q) the terminal is %+v, after the keys %+v", c.text, x.State(), y.State())
		}
		refused := uint64(0)
		if c.e != api.OK {
			refused = 1
		}
		checkCounts(t, c.text, x, 0, uint64(c.accepted)+refused, 0, 0, refused, 0)
	}
}

// P23.1: Type while the keyboard waits, and in the insert mode until there is no room.
func TestTypeUntilLocked(t *testing.T) {
	x := busy(t, 2)
	types(t, x, "AB", 0, api.ErrLocked)
	types(t, x, "", 0, api.OK)
	checkBusy(t, "a locked text", x)
	checkCounts(t, "a locked text", x, 0, 1, 0, 0, 1, 0)

	x = newTerm(t, 2, 37)
	hostSends(t, x, "\xf5\x40\x1d\x40\x13\x00\x00\x00\x00\x1d\x60", api.OK)
	press(t, x, keys.Key{Kind: keys.Insert}, "", api.OK)
	types(t, x, "AB", 2, api.OK)
	press(t, x, keys.Key{Kind: keys.Home}, "", api.OK)
	types(t, x, "CDEF", 2, api.ErrFull)
	checkScreen(t, "insert", x, newScreen(t, 2, false, cells{0: field(1), 1: char(0xc3), 2: char(0xc4), 3: char(0xc1), 4: char(0xc2), 5: field(0x20)}, 3))
	if s := x.State(); s.Lock != 4 || !s.Inserts {
		t.Errorf("the state is %+v", s)
	}
	checkCounts(t, "insert", x, 0, 7, 0, 1, 1, 0)
}

// P23.1: a long text, around the screen.
func TestLongText(t *testing.T) {
	x := newTerm(t, 2, 37)
	types(t, x, strings.Repeat("A", 1920)+"BC", 1922, api.OK)
	s := x.Screen()
	if s.At(0).Char != 0xc2 || s.At(1).Char != 0xc3 || s.At(2).Char != 0xc1 || s.Cursor() != 2 {
		t.Errorf("the screen begins with %v, %v, %v", s.At(0), s.At(1), s.At(2))
	}
	checkCounts(t, "a long text", x, 0, 1922, 0, 0, 0, 0)
}

// P23.1: the character that a page has, and its code.
func TestKeyPages(t *testing.T) {
	for number, code := range map[int]byte{37: 0x43, 273: 0xc0, 297: 0x43, 500: 0x43, 1047: 0x43, 1140: 0x43} {
		x := newTerm(t, 2, number)
		types(t, x, "ä", 1, api.OK)
		if c := x.Screen().At(0); c != char(code) {
			t.Errorf("on page %d there is %v", number, c)
		}
	}
	for number, e := range map[int]api.Errno{37: api.ErrSign, 1140: api.OK} {
		x := newTerm(t, 2, number)
		if _, errno := x.Key(keys.Key{Kind: keys.Char, Sign: 0x20ac}); errno != e {
			t.Errorf("on page %d: %d, want %d", number, errno, e)
		}
	}
}

// P23.1: each counter by itself.
func TestCounters(t *testing.T) {
	x := newTerm(t, 2, 37)
	hostSends(t, x, "\xf5", api.OK)
	checkCounts(t, "a record", x, 0, 0, 0, 1, 0, 0)
	hostSends(t, x, "\x99", api.ErrCommand)
	checkCounts(t, "a rejected one", x, 0, 0, 0, 2, 0, 1)
	hostSends(t, x, "\xf1\x04", api.OK)
	checkCounts(t, "an alarm", x, 1, 0, 0, 3, 0, 1)
	hostSends(t, x, "\xf6", api.OK, "\x60\x40\x40")
	checkCounts(t, "a read", x, 1, 0, 1, 4, 0, 1)
	hostSends(t, x, "\xf3"+readField(0xf6)+readField(0xf6)+outbound("\xf1\x04")+outbound("\xf1\x04")+"\x00", api.ErrShort, "\x60\x40\x40", "\x60\x40\x40")
	checkCounts(t, "fields", x, 3, 0, 3, 5, 0, 2)
	press(t, x, keys.Key{Kind: keys.Tab}, "", api.OK)
	checkCounts(t, "a key", x, 3, 1, 3, 5, 0, 2)
	press(t, x, keys.Key{Kind: keys.PF}, "", api.ErrArg)
	checkCounts(t, "a refused one", x, 3, 2, 3, 5, 1, 2)
	types(t, x, "ABC\n", 3, api.ErrSign)
	checkCounts(t, "a text", x, 3, 6, 3, 5, 2, 2)
	press(t, x, keys.Key{Kind: keys.PA, N: 1}, "\x6c", api.OK)
	checkCounts(t, "a key that sends", x, 3, 7, 4, 5, 2, 2)
	x.State()
	x.Screen()
	x.Page()
	x.Same(x.Copy())
	checkCounts(t, "no others", x, 3, 7, 4, 5, 2, 2)
}
