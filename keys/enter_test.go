package keys_test

import (
	"math"
	"slices"
	"testing"

	"vitrine/api"
	"vitrine/keys"
	"vitrine/page"
)

// mayEnter reports whether a code may be entered.
func mayEnter(code int) bool {
	return code >= 0x40 && code <= 0xfe
}

// Char of each character of each page, in an unprotected field.
func TestEachSign(t *testing.T) {
	for number := range page.Numbers() {
		p := newPage(t, number)
		for code := range 256 {
			s := newScreen(t, cells{0: field(0), 10: field(0x20)}, 5)
			b := boardOf(t, s, number)
			k := keys.Key{Kind: keys.Char, Sign: p.Sign(byte(code))}
			if !mayEnter(code) {
				press(t, b, k, false, api.ErrSign)
				checkScreen(t, "a code that may not be entered", s, cells{0: field(0), 10: field(0x20)}, 5)
			} else {
				press(t, b, k, false, api.OK)
				checkScreen(t, "a character", s, cells{0: field(1), 5: char(byte(code)), 10: field(0x20)}, 6)
			}
			checkState(t, "a character", b, state{0, false, 0x60})
		}
	}
}

// Characters without a code fail without any effect, and so do they in protected and numeric fields.
func TestSignsWithoutCode(t *testing.T) {
	for _, sign := range []rune{0x3b1, 0x20ac, 0x4e00, 0x1f600, 0xfffd, 0xd800, -1, 0x110000, 0x100 + 'A', 0x10000 + 'A', math.MaxInt32, math.MinInt32, 0, '\n', '\t', 0x1c, 0x9f} {
		for _, n := range []int{0, 2, 10, 12, 22} {
			s, b := on(t, lockable(), n)
			do(t, b, keys.Insert)
			press(t, b, keys.Key{Kind: keys.Char, Sign: sign}, false, api.ErrSign)
			checkState(t, "no code", b, state{0, true, 0x60})
			checkScreen(t, "no code", s, lockable(), n)
		}
	}
}

// Code of each code, and of numbers that are none.
func TestEachCode(t *testing.T) {
	for n := -300; n < 600; n++ {
		checkCode(t, n)
	}
	for _, n := range []int{1<<32 + 0xc1, 1<<62 + 0xc1, math.MaxInt, math.MinInt, math.MinInt + 0xc1} {
		checkCode(t, n)
	}
}

func checkCode(t *testing.T, n int) {
	t.Helper()
	s, b := on(t, cells{0: field(0), 10: field(0x20)}, 5)
	k := keys.Key{Kind: keys.Code, N: n, Sign: 'A'}
	if !mayEnter(n) {
		for _, at := range []int{5, 10, 12} {
			s.Place(at)
			press(t, b, k, false, api.ErrArg)
			checkScreen(t, "no code", s, cells{0: field(0), 10: field(0x20)}, at)
		}
	} else {
		press(t, b, k, false, api.OK)
		checkScreen(t, "a code", s, cells{0: field(1), 5: char(byte(n)), 10: field(0x20)}, 6)
	}
	checkState(t, "a code", b, state{0, false, 0x60})
}

// entering are keys that enter a code, with the code.
func entering() map[keys.Key]byte {
	return map[keys.Key]byte{
		{Kind: keys.Char, Sign: 'A'}: 0xc1, {Kind: keys.Code, N: 0x81}: 0x81, {Kind: keys.Code, N: 0x40}: 0x40, {Kind: keys.Char, Sign: '7'}: 0xf7,
		{Kind: keys.Dup}: 0x1c, {Kind: keys.FieldMark}: 0x1e,
	}
}

// On an attribute and in a protected field nothing is entered, in both modes, also if the field is numeric.
func TestEnterProtected(t *testing.T) {
	for k := range entering() {
		for _, insert := range []bool{false, true} {
			for bits := range byte(64) {
				l := cells{0: field(bits), 10: field(0), 15: field(bits)}
				for _, n := range []int{0, 10, 15, 5, 1919} {
					if bits&0x20 == 0 && (n == 5 || n == 1919) {
						continue
					}
					s, b := on(t, l, n)
					if insert {
						do(t, b, keys.Insert)
					}
					press(t, b, k, false, api.ErrProtect)
					checkState(t, "protected", b, state{2, insert, 0x60})
					checkScreen(t, "protected", s, l, n)
				}
			}
		}
	}
}

// In an unprotected field, whatever its other bits are, a code takes the place of what was there: display attributes stay, but for the set.
func TestEnterReplaces(t *testing.T) {
	for k, code := range entering() {
		for bits := range byte(64) {
			if bits&0x20 != 0 || bits&0x10 != 0 && code != 0xf7 && code != 0x1c {
				continue
			}
			for _, old := range []byte{0, 0x40, 0xc9} {
				display := api.Cell{Char: old, High: 0xf1, Color: 0xf2, Set: 0xf1}
				attribute := api.Cell{Attr: true, FA: bits, High: 0xf2, Color: 0xf3, Set: 0xf1}
				s, b := on(t, cells{0: attribute, 4: display, 5: display, 6: display, 9: field(0x20), 20: field(0)}, 5)
				press(t, b, k, false, api.OK)
				attribute.FA |= 1
				cursor := 6
				if k.Kind == keys.Dup {
					cursor = 21
				}
				checkScreen(t, "replaced", s, cells{0: attribute, 4: display, 5: {Char: code, High: 0xf1, Color: 0xf2}, 6: display, 9: field(0x20), 20: field(0)}, cursor)
				checkState(t, "replaced", b, state{0, false, 0x60})
			}
		}
	}
}

// In a numeric field there are digits, the period, the minus and Dup, by the character that the code has on the page.
func TestEnterNumeric(t *testing.T) {
	for number := range page.Numbers() {
		p := newPage(t, number)
		for code := 0x40; code <= 0xfe; code++ {
			numeric := slices.Contains([]rune("0123456789.-"), p.Sign(byte(code)))
			for _, k := range []keys.Key{{Kind: keys.Code, N: code}, {Kind: keys.Char, Sign: p.Sign(byte(code))}} {
				checkNumeric(t, number, k, numeric)
			}
		}
		checkNumeric(t, number, keys.Key{Kind: keys.Dup}, true)
		checkNumeric(t, number, keys.Key{Kind: keys.FieldMark}, false)
	}
}

func checkNumeric(t *testing.T, number int, k keys.Key, numeric bool) {
	t.Helper()
	s := newScreen(t, cells{0: field(0x10), 5: char(0xf1), 10: field(0x20)}, 5)
	b := boardOf(t, s, number)
	if numeric {
		press(t, b, k, false, api.OK)
		checkState(t, "numeric", b, state{0, false, 0x60})
		if s.At(5) == char(0xf1) != (k.Sign == '1' || k.N == 0xf1) || s.At(0) != field(0x11) {
			t.Errorf("%+v: %v, %v", k, s.At(5), s.At(0))
		}
		return
	}
	press(t, b, k, false, api.ErrNumeric)
	checkState(t, "not numeric", b, state{3, false, 0x60})
	checkScreen(t, "not numeric", s, cells{0: field(0x10), 5: char(0xf1), 10: field(0x20)}, 5)
}

// Without fields everything may be entered everywhere; no attribute comes into being.
func TestEnterUnformatted(t *testing.T) {
	for k, code := range entering() {
		for _, n := range []int{0, 1, 79, 80, 1918, 1919} {
			s, b := on(t, nil, n)
			press(t, b, k, false, api.OK)
			cursor := (n + 1) % 1920
			if k.Kind == keys.Dup {
				cursor = 0
			}
			checkScreen(t, "unformatted", s, cells{n: char(code)}, cursor)
		}
	}
}

// After a character the cursor goes on as layer 15's After does, after Dup as by Tab.
func TestCursorBehindCode(t *testing.T) {
	l := cells{0: field(0), 5: field(0x20), 10: field(0x30), 20: field(0), 25: field(0x30), 30: field(0x10), 31: field(0)}
	for n, want := range map[int][2]int{1: {2, 21}, 4: {6, 21}, 21: {22, 32}, 24: {32, 32}, 32: {33, 1}, 1919: {1, 1}} {
		for k := range entering() {
			s, b := on(t, l, n)
			press(t, b, k, false, api.OK)
			cursor := want[0]
			if k.Kind == keys.Dup {
				cursor = want[1]
			}
			if s.Cursor() != cursor {
				t.Errorf("%+v: from %d to %d, want %d", k, n, s.Cursor(), cursor)
			}
		}
	}
}

// A field around the screen is marked by what is entered at its end, and no other field is.
func TestEnterMarksItsField(t *testing.T) {
	l := cells{5: field(0), 10: field(0), 700: field(0x0c)}
	for n, start := range map[int]int{4: 700, 0: 700, 1919: 700, 6: 5, 9: 5, 11: 10, 699: 10, 701: 700} {
		s, b := on(t, l, n)
		do(t, b, keys.FieldMark)
		for at, c := range l {
			want := c.FA
			if at == start {
				want |= 1
			}
			if s.At(at).FA != want {
				t.Errorf("at %d: the field at %d is %x, want %x", n, at, s.At(at).FA, want)
			}
		}
	}
}

// In insert mode the characters move up to the first null, without their display attributes; Dup takes the place.
func TestInsertWithRoom(t *testing.T) {
	red := api.Cell{Char: 0xd2, Color: 0xf2, Set: 0xf1}
	l := cells{0: field(0), 1: char(0xd1), 2: red, 3: char(0xd3), 5: char(0xd5), 6: field(0x20), 20: field(0)}
	for k, code := range entering() {
		s, b := on(t, l, 2)
		do(t, b, keys.Insert)
		press(t, b, k, false, api.OK)
		if k.Kind == keys.Dup {
			checkScreen(t, "Dup", s, cells{0: field(1), 1: char(0xd1), 2: {Char: 0x1c, Color: 0xf2}, 3: char(0xd3), 5: char(0xd5), 6: field(0x20), 20: field(0)}, 21)
		} else {
			checkScreen(t, "inserted", s, cells{0: field(1), 1: char(0xd1), 2: {Char: code, Color: 0xf2}, 3: char(0xd2), 4: char(0xd3), 5: char(0xd5), 6: field(0x20), 20: field(0)}, 3)
		}
		checkState(t, "inserted", b, state{0, true, 0x60})
	}
}

// Insertion at a null, at the end of a field and around the screen; a skipped field behind it is left out.
func TestInsertAtEnds(t *testing.T) {
	code := keys.Key{Kind: keys.Code, N: 0xc1}
	for _, c := range []struct {
		l      cells
		n      int
		want   cells
		cursor int
	}{
		{cells{0: field(0), 3: field(0)}, 2, cells{0: field(1), 2: char(0xc1), 3: field(0)}, 4},
		{cells{0: field(0), 1: char(0xd1), 4: field(0x20)}, 3, cells{0: field(1), 1: char(0xd1), 3: char(0xc1), 4: field(0x20)}, 5},
		{cells{1917: field(0), 1918: char(0xd1), 1919: char(0xd2), 3: field(0x20)}, 1918, cells{1917: field(1), 1918: char(0xc1), 1919: char(0xd1), 0: char(0xd2), 3: field(0x20)}, 1919},
		{cells{0: field(0), 3: char(0xd1), 5: field(0x30), 9: field(0)}, 4, cells{0: field(1), 3: char(0xd1), 4: char(0xc1), 5: field(0x30), 9: field(0)}, 10},
		{cells{1919: char(0xd1), 0: char(0xd2)}, 1919, cells{1919: char(0xc1), 0: char(0xd1), 1: char(0xd2)}, 0},
		{nil, 7, cells{7: char(0xc1)}, 8},
	} {
		s, b := on(t, c.l, c.n)
		do(t, b, keys.Insert)
		press(t, b, code, false, api.OK)
		checkScreen(t, "inserted", s, c.want, c.cursor)
	}
}

// Without room nothing changes but the lock; nulls before the cursor and in other fields are no room, blanks are none either.
func TestInsertWithoutRoom(t *testing.T) {
	full := cells{0: field(0x04), 2: {Char: 0xd2, Set: 0xf1}, 3: char(0x40), 4: field(0), 9: field(0x20)}
	for k, code := range entering() {
		for _, n := range []int{2, 3} {
			s, b := on(t, full, n)
			do(t, b, keys.Insert)
			if k.Kind == keys.Dup {
				do(t, b, keys.Dup)
				if s.At(n) != char(code) || b.Lock() != 0 {
					t.Errorf("Dup at %d: %v, %d", n, s.At(n), b.Lock())
				}
				continue
			}
			press(t, b, k, false, api.ErrFull)
			checkState(t, "full", b, state{4, true, 0x60})
			checkScreen(t, "full", s, full, n)
			do(t, b, keys.Reset)
			press(t, b, k, false, api.OK)
			if s.At(n) != char(code) {
				t.Errorf("%+v at %d: %v", k, n, s.At(n))
			}
		}
	}
	l := cells{}
	for n := range 1920 {
		l[n] = char(0x40)
	}
	s, b := on(t, l, 700)
	do(t, b, keys.Insert)
	press(t, b, keys.Key{Kind: keys.Code, N: 0xc1}, false, api.ErrFull)
	checkScreen(t, "a full screen", s, l, 700)
}

// In insert mode protected comes first, then numeric, then overflow.
func TestInsertErrors(t *testing.T) {
	for n, want := range map[int]struct {
		e    api.Errno
		lock int
	}{0: {api.ErrProtect, 2}, 1: {api.ErrNumeric, 3}, 3: {api.ErrProtect, 2}, 5: {api.ErrFull, 4}, 7: {api.ErrProtect, 2}, 9: {api.ErrProtect, 2}} {
		l := cells{0: field(0x10), 1: char(0xf1), 2: char(0xf2), 3: field(0), 4: char(0xc1), 5: char(0xc2), 6: char(0xc3), 7: field(0x30), 8: char(0xc1), 9: char(0xc2)}
		s, b := on(t, l, n)
		do(t, b, keys.Insert)
		press(t, b, keys.Key{Kind: keys.Char, Sign: 'Z'}, false, want.e)
		checkState(t, "insert", b, state{want.lock, true, 0x60})
		checkScreen(t, "insert", s, l, n)
	}
}

// P18.1: Type enters character by character, and stops at the first key that fails; what was entered stays.
func TestType(t *testing.T) {
	for _, c := range []struct {
		text   string
		n      int
		e      api.Errno
		lock   int
		want   cells
		cursor int
	}{
		{"", 0, api.OK, 0, cells{0: field(0), 4: field(0x20), 9: field(0x10), 12: field(0x30)}, 1},
		{"aB", 2, api.OK, 0, cells{0: field(1), 1: char(0x81), 2: char(0xc2), 4: field(0x20), 9: field(0x10), 12: field(0x30)}, 3},
		{"aBc", 3, api.OK, 0, cells{0: field(1), 1: char(0x81), 2: char(0xc2), 3: char(0x83), 4: field(0x20), 9: field(0x10), 12: field(0x30)}, 5},
		{"aBcd", 3, api.ErrProtect, 2, cells{0: field(1), 1: char(0x81), 2: char(0xc2), 3: char(0x83), 4: field(0x20), 9: field(0x10), 12: field(0x30)}, 5},
		{"aα1", 1, api.ErrSign, 0, cells{0: field(1), 1: char(0x81), 4: field(0x20), 9: field(0x10), 12: field(0x30)}, 2},
		{"é\n", 1, api.ErrSign, 0, cells{0: field(1), 1: char(0x51), 4: field(0x20), 9: field(0x10), 12: field(0x30)}, 2},
		{"é\xff", 1, api.ErrSign, 0, cells{0: field(1), 1: char(0x51), 4: field(0x20), 9: field(0x10), 12: field(0x30)}, 2},
		{"\xc3", 0, api.ErrSign, 0, cells{0: field(0), 4: field(0x20), 9: field(0x10), 12: field(0x30)}, 1},
		{"€", 0, api.ErrSign, 0, cells{0: field(0), 4: field(0x20), 9: field(0x10), 12: field(0x30)}, 1},
	} {
		s, b := on(t, cells{0: field(0), 4: field(0x20), 9: field(0x10), 12: field(0x30)}, 1)
		n, e := b.Type(c.text)
		if n != c.n || e != c.e {
			t.Errorf("%q: %d, %d, want %d, %d", c.text, n, e, c.n, c.e)
		}
		checkState(t, c.text, b, state{c.lock, false, 0x60})
		checkScreen(t, c.text, s, c.want, c.cursor)
	}
	s, b := on(t, cells{9: field(0x10), 12: field(0x30)}, 10)
	if n, e := b.Type("12"); n != 2 || e != api.OK || s.Cursor() != 10 {
		t.Errorf("numbers: %d, %d, %d", n, e, s.Cursor())
	}
	if n, e := b.Type("3x4"); n != 1 || e != api.ErrNumeric || b.Lock() != 3 || s.At(11).Char != 0xf2 {
		t.Errorf("numbers: %d, %d, %d", n, e, b.Lock())
	}
	if n, e := b.Type("3"); n != 0 || e != api.ErrLocked {
		t.Errorf("locked: %d, %d", n, e)
	}
}

// P18.1: in insert mode Type inserts each character, until there is no room.
func TestTypeInserts(t *testing.T) {
	s, b := on(t, cells{0: field(0), 1: char(0xd1), 2: char(0xd2), 5: field(0x20)}, 1)
	do(t, b, keys.Insert)
	if n, e := b.Type("abc"); n != 2 || e != api.ErrFull {
		t.Errorf("%d, %d", n, e)
	}
	checkState(t, "full", b, state{4, true, 0x60})
	checkScreen(t, "full", s, cells{0: field(1), 1: char(0x81), 2: char(0x82), 3: char(0xd1), 4: char(0xd2), 5: field(0x20)}, 3)
}

// Type goes around a screen without fields.
func TestTypeAround(t *testing.T) {
	s, b := on(t, nil, 1918)
	if n, e := b.Type("ABCD"); n != 4 || e != api.OK {
		t.Fatal(n, e)
	}
	checkScreen(t, "around", s, cells{1918: char(0xc1), 1919: char(0xc2), 0: char(0xc3), 1: char(0xc4)}, 2)
}

// The characters are those of the keyboard's page.
func TestTypeOnPages(t *testing.T) {
	for number, code := range map[int]byte{37: 0x43, 273: 0xc0, 297: 0x43, 500: 0x43, 1047: 0x43, 1140: 0x43} {
		s := newScreen(t, nil, 0)
		if n, e := boardOf(t, s, number).Type("ä"); n != 1 || e != api.OK || s.At(0).Char != code {
			t.Errorf("page %d: %d, %d, %x", number, n, e, s.At(0).Char)
		}
	}
	s := newScreen(t, nil, 0)
	if n, e := boardOf(t, s, 1140).Type("€"); n != 1 || e != api.OK || s.At(0).Char != 0x9f {
		t.Errorf("page 1140: %d, %d, %x", n, e, s.At(0).Char)
	}
}
