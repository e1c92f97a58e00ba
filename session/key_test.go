package session_test

import (
	"slices"
	"strings"
	"testing"

	"vitrine/api"
	"vitrine/field"
	"vitrine/keys"
	"vitrine/session"
)

var enter = keys.Key{Kind: keys.Enter}

// inPlainMode are streams behind which the mode is 0, each on another way.
var inPlainMode = []string{"", "text", toBasic[:12], doExt, doExt + sendDev, toFuncs, toExt + dontExt, toExt + sendDev, toBasic + leave, toBasic + doExt, toFuncs + noFuncsIs + dontExt}

// P25.1, Terms: in mode 0 every key is ErrState, also one that isn't there, and has no effect.
func TestKeyInPlainMode(t *testing.T) {
	for _, p := range inPlainMode {
		s := newSession(t, usual())
		s.Bytes([]byte(p))
		s.Out()
		before := s.View()
		if before.Mode != plain {
			t.Fatalf("%x: mode %d", p, before.Mode)
		}
		for kind := -1; kind < 25; kind++ {
			press(t, s, keys.Key{Kind: kind, Sign: 'A', N: 1}, api.ErrState, "")
		}
		types(t, s, "", 0, api.OK)
		for _, text := range []string{"A", "AB", "\n", "\xff", strings.Repeat("A", 2000)} {
			types(t, s, text, 0, api.ErrState)
		}
		checkView(t, p, s, before)
		checkScreen(t, p, s, nil, 0)
		checkErrors(t, p, s)
		checkCounts(t, p, s, 0, 0, 0, 0, 0, 0)
	}
}

// P8: until the modes are agreed on everything is plain text: records are texts, and nothing of the screen or the keyboard changes.
func TestPlainText(t *testing.T) {
	for _, p := range inPlainMode {
		s := newSession(t, usual())
		s.Bytes([]byte(p))
		s.Out()
		want := s.View()
		takes(t, s, form+eor+"\x00\x00\x02\x00\x05"+form+eor+eor+"\xff\xff\xf6"+eor, 0, "")
		want.Text += form + "\x00\x00\x02\x00\x05" + form + "\xff\xf6"
		checkView(t, p, s, want)
		checkScreen(t, p, s, nil, 0)
		checkErrors(t, p, s)
		checkCounts(t, p, s, 0, 0, 0, 0, 0, 0)
	}
}

// P25.1: a key is the terminal's, and what results is sent, once and as a record; in both modes.
func TestKey(t *testing.T) {
	for mode := basic; mode <= extended; mode++ {
		s := formed(t, mode)
		press(t, s, keys.Key{Kind: keys.Char, Sign: 'A'}, api.OK, "")
		press(t, s, keys.Key{Kind: keys.Code, N: 0x60}, api.OK, "")
		press(t, s, keys.Key{Kind: keys.Tab}, api.OK, "")
		checkScreen(t, "typed", s, cells{0: attribute(1), 1: char(0xc1), 2: char(0x60), 6: attribute(0x20)}, 1)
		press(t, s, keys.Key{Kind: keys.PF, N: 13}, api.OK, fromUs(mode, 0, "\xc1\x40\xc1\x11\x40\xc1\xc1\x60"))
		press(t, s, enter, api.ErrLocked, "")
		press(t, s, keys.Key{Kind: 0}, api.ErrArg, "")
		press(t, s, keys.Key{Kind: keys.PA, N: 4}, api.ErrLocked, "")
		takes(t, s, inMode(mode, "\xf1\x02"), 1, "")
		press(t, s, keys.Key{Kind: keys.PA, N: 4}, api.ErrArg, "")
		press(t, s, keys.Key{Kind: keys.PA, N: 2}, api.OK, fromUs(mode, 1, "\x6e"))
		takes(t, s, inMode(mode, "\xf1\x02"), 1, "")
		press(t, s, keys.Key{Kind: keys.Up}, api.OK, "")
		press(t, s, keys.Key{Kind: keys.EraseInput}, api.OK, "")
		press(t, s, enter, api.OK, fromUs(mode, 2, "\x7d\x40\xc1"))
		takes(t, s, inMode(mode, "\xf1\x02"), 1, "")
		press(t, s, keys.Key{Kind: keys.Clear}, api.OK, fromUs(mode, 3, "\x6d"))
		checkScreen(t, "cleared", s, nil, 0)
		checkErrors(t, "keys leave none", s, api.OK, api.OK, api.OK, api.OK)
		checkCounts(t, "keys", s, 0, 13, 4, 4, 4, 0)
	}
}

// P25.1: what is sent has the bytes ff doubled, and in mode 2 the next number, if the function 2 was agreed on.
func TestKeySends(t *testing.T) {
	s := formed(t, extended)
	for seq := range 300 {
		s.Bytes([]byte(headed(0, 0, 9, "\xf1\x02")))
		press(t, s, keys.Key{Kind: keys.PF, N: 1}, api.OK, headed(0, 0, uint16(seq), "\xf1\x40\xc1"))
	}
	s = newSession(t, usual())
	s.Bytes([]byte(toFuncs + noFuncsIs))
	takes(t, s, headed(0, 2, 1, form), 1, saysExt)
	for range 3 {
		press(t, s, keys.Key{Kind: keys.PA, N: 1}, api.OK, headed(0, 0, 0, "\x6c"))
		takes(t, s, headed(0, 2, 1, "\xf1\x02"), 1, "")
	}
}

// P25.1: each key does the same as the terminal's key does, with its error.
func TestEveryKey(t *testing.T) {
	for mode := basic; mode <= extended; mode++ {
		for kind := -1; kind < 25; kind++ {
			for _, lock := range []bool{false, true} {
				s := formed(t, mode)
				m := newMachine(t, usual())
				m.bytes([]byte([]string{"", toBasic, toExt}[mode] + inMode(mode, form)))
				m.out()
				if lock {
					press(t, s, enter, m.key(enter), string(m.out()))
				}
				k := keys.Key{Kind: kind, Sign: 'x', N: 3}
				press(t, s, k, m.key(k), string(m.out()))
				m.compare(t, "a key", s)
			}
		}
	}
}

// P25.1: Type presses Char for each character, up to the first one that is not accepted.
func TestType(t *testing.T) {
	for mode := basic; mode <= extended; mode++ {
		s := formed(t, mode)
		types(t, s, "", 0, api.OK)
		checkCounts(t, "nothing", s, 0, 0, 0, 1, 0, 0)
		types(t, s, "Ab", 2, api.OK)
		types(t, s, "é\n1", 1, api.ErrSign)
		checkScreen(t, "typed", s, cells{0: attribute(1), 1: char(0xc1), 2: char(0x82), 3: char(0x51), 6: attribute(0x20)}, 4)
		checkCounts(t, "typed", s, 0, 4, 0, 1, 1, 0)
		types(t, s, "\xff", 0, api.ErrSign)
		types(t, s, "5\xc3", 1, api.ErrSign)
		// The field ends at 5, from where the cursor goes on to the protected one's first position.
		types(t, s, "67", 1, api.ErrProtect)
		checkScreen(t, "typed", s, cells{0: attribute(1), 1: char(0xc1), 2: char(0x82), 3: char(0x51), 4: char(0xf5), 5: char(0xf6), 6: attribute(0x20)}, 7)
		if v := s.View(); v.State.Lock != 2 {
			t.Error(v)
		}
		types(t, s, "8", 0, api.ErrLocked)
		checkCounts(t, "typed", s, 0, 10, 0, 1, 5, 0)
	}
}

// P25.1: what was agreed on is taken back, and agreed on anew: keys count only while it is agreed on, and what there was stays.
func TestTakenBack(t *testing.T) {
	for mode := basic; mode <= extended; mode++ {
		s := formed(t, mode)
		types(t, s, "A", 1, api.OK)
		press(t, s, enter, api.OK, fromUs(mode, 0, "\x7d\x40\xc2\x11\x40\xc1\xc1"))
		off, on := leave, back
		if mode == extended {
			off, on = dontExt, toExt
		}
		s.Bytes([]byte("lost" + off + form + eor))
		s.Out()
		want := session.View{Mode: plain, State: newState(2, 37), Text: form}
		want.State.Cursor, want.State.Lock, want.State.AID = 2, 1, 0x7d
		checkView(t, "taken back", s, want)
		press(t, s, keys.Key{Kind: keys.Reset}, api.ErrState, "")
		types(t, s, "B", 0, api.ErrState)
		checkScreen(t, "taken back", s, cells{0: attribute(1), 1: char(0xc1), 6: attribute(0x20)}, 2)
		checkErrors(t, "taken back", s, api.OK)
		s.Bytes([]byte(on))
		s.Out()
		want.Mode = mode
		if mode == extended {
			want.Device = "LU9"
		}
		checkView(t, "anew", s, want)
		types(t, s, "B", 0, api.ErrLocked)
		takes(t, s, inMode(mode, "\xf1\x02"), 1, "")
		types(t, s, "B", 1, api.OK)
		press(t, s, enter, api.OK, fromUs(mode, 1, "\x7d\x40\xc3\x11\x40\xc1\xc1\xc2"))
		checkCounts(t, "anew", s, 0, 5, 2, 2, 1, 0)
	}
}

// P25.1: from one kind of mode to the other the terminal stays as it is.
func TestOtherMode(t *testing.T) {
	s := formed(t, basic)
	types(t, s, "A", 1, api.OK)
	takes(t, s, toExt+headed(0, 2, 3, "\xf1\x40"), 1, saysExt+positive(3))
	press(t, s, enter, api.OK, headed(0, 0, 0, "\x7d\x40\xc2\x11\x40\xc1\xc1"))
	takes(t, s, dontExt+wrapped("\xf1\x02"), 1, "\xff\xfc\x28")
	press(t, s, enter, api.OK, wrapped("\x7d\x40\xc2\x11\x40\xc1\xc1"))
	checkScreen(t, "basic again", s, cells{0: attribute(1), 1: char(0xc1), 6: attribute(0x20)}, 2)
}

// P4: keys change no protected position; and while the keyboard is locked nothing changes.
func TestKeysChangeWhatIsOpen(t *testing.T) {
	r := newRandom(4)
	for range 150 {
		s := reach(t, 1+r.IntN(2))
		s.Bytes([]byte(inMode(s.View().Mode, "\xf5\xc2"+randomOrders(r))))
		for range 60 {
			before, v := s.Screen(), s.View()
			k := randomKey(r)
			s.Key(k)
			after := s.Screen()
			if v.State.Lock != 0 && !before.Same(after) {
				t.Fatalf("%+v: the screen has changed while the lock was %d", k, v.State.Lock)
			}
			if k.Kind == keys.Clear {
				continue
			}
			for _, n := range before.Diff(after) {
				a, b := before.At(n), after.At(n)
				a.FA, b.FA = a.FA&^1, b.FA&^1
				if a != b && !field.Open(before, n) {
					t.Fatalf("%+v: at %d there was %v, and is %v", k, n, a, b)
				}
			}
			if r.IntN(6) == 0 {
				s.Bytes([]byte(inMode(s.View().Mode, "\xf1\x02")))
			}
		}
	}
}

// P5: Enter sends exactly the modified fields, each once, in order.
func TestModifiedAreSent(t *testing.T) {
	r := newRandom(5)
	sent := 0
	for range 400 {
		mode := 1 + r.IntN(2)
		s := reach(t, mode)
		s.Bytes([]byte(inMode(mode, "\xf5\xc2\x1d\x40"+randomOrders(r)+"\x13")))
		for range r.IntN(30) {
			k := randomKey(r)
			if k.Kind < keys.Select {
				s.Key(k)
			}
		}
		s.Key(keys.Key{Kind: keys.Reset})
		s.Out()
		screen := s.Screen()
		if !screen.Formatted() {
			continue
		}
		if e := s.Key(enter); e != api.OK {
			t.Fatal(e)
		}
		report := parsed(t, mode, s.Out())
		if report.AID != 0x7d || report.Cursor != screen.Cursor() {
			t.Fatalf("%+v", report)
		}
		var at []int
		for start := range field.Modified(screen) {
			at = append(at, screen.Size().Wrap(start+1))
		}
		var got []int
		for i, e := range report.Entries {
			got = append(got, e.Addr)
			start := field.Start(screen, at[min(i, len(at)-1)]-1)
			if want := withoutNulls(field.Text(screen, start)); !slices.Equal(e.Text, want) {
				t.Fatalf("the entry at %d is %x, want %x", e.Addr, e.Text, want)
			}
		}
		if !slices.Equal(got, at) {
			t.Fatalf("the fields sent are at %d, want %d", got, at)
		}
		sent += len(at)
	}
	if sent < 200 {
		t.Error("too few fields are modified: ", sent)
	}
}
