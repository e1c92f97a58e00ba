package keys_test

import (
	"testing"

	"vitrine/api"
	"vitrine/keys"
	"vitrine/page"
	"vitrine/space"
)

// cells are what is on a screen, by position.
type cells map[int]api.Cell

// field is an attribute with these six bits.
func field(bits byte) api.Cell {
	return api.Cell{Attr: true, FA: bits}
}

// char is a character without display attributes.
func char(code byte) api.Cell {
	return api.Cell{Char: code}
}

// newPage makes a page that there is.
func newPage(t *testing.T, number int) *page.Page {
	t.Helper()
	p, e := page.New(number)
	if e != api.OK {
		t.Fatal(e)
	}
	return p
}

// newScreen makes a space of model 5 in its default size of 24 rows of 80, with these cells, and the cursor at n.
func newScreen(t *testing.T, l cells, n int) *space.Space {
	t.Helper()
	s, e := space.New(5)
	if e != api.OK {
		t.Fatal(e)
	}
	for at, c := range l {
		s.Set(at, c)
	}
	s.Place(n)
	return s
}

// newBoard makes a keyboard with page 37.
func newBoard(t *testing.T, s *space.Space) *keys.Board {
	t.Helper()
	return boardOf(t, s, 37)
}

func boardOf(t *testing.T, s *space.Space, number int) *keys.Board {
	t.Helper()
	b, e := keys.New(s, newPage(t, number))
	if e != api.OK {
		t.Fatal(e)
	}
	return b
}

// on makes a screen and a keyboard for it.
func on(t *testing.T, l cells, n int) (*space.Space, *keys.Board) {
	t.Helper()
	s := newScreen(t, l, n)
	return s, newBoard(t, s)
}

// checkScreen compares a screen with the cells and the cursor that it should have.
func checkScreen(t *testing.T, what string, s *space.Space, l cells, cursor int) {
	t.Helper()
	sameScreen(t, what, s, newScreen(t, l, cursor))
}

func sameScreen(t *testing.T, what string, s, want *space.Space) {
	t.Helper()
	if s.Size() != want.Size() || s.Alternate() != want.Alternate() {
		t.Fatalf("%s: the size is %v", what, s.Size())
	}
	for _, n := range s.Diff(want) {
		t.Fatalf("%s: at %d there is %v, want %v", what, n, s.At(n), want.At(n))
	}
	if s.Cursor() != want.Cursor() {
		t.Fatalf("%s: the cursor is at %d, want %d", what, s.Cursor(), want.Cursor())
	}
}

// state is what a keyboard tells of itself.
type state struct {
	lock    int
	inserts bool
	aid     byte
}

func stateOf(b *keys.Board) state {
	return state{b.Lock(), b.Inserts(), b.AID()}
}

func checkState(t *testing.T, what string, b *keys.Board, want state) {
	t.Helper()
	if got := stateOf(b); got != want {
		t.Fatalf("%s: the keyboard is %+v, want %+v", what, got, want)
	}
}

// press presses a key, and compares what it returns.
func press(t *testing.T, b *keys.Board, k keys.Key, sent bool, e api.Errno) {
	t.Helper()
	if got, errno := b.Press(k); got != sent || errno != e {
		t.Fatalf("%+v: %v, %d, want %v, %d", k, got, errno, sent, e)
	}
}

// do presses keys of these kinds that send nothing and do not fail.
func do(t *testing.T, b *keys.Board, kinds ...int) {
	t.Helper()
	for _, kind := range kinds {
		press(t, b, keys.Key{Kind: kind}, false, api.OK)
	}
}

// kinds are all keys, in the order of their numbers.
func kinds() []int {
	return []int{
		keys.Char, keys.Code, keys.Dup, keys.FieldMark, keys.Tab, keys.BackTab, keys.NewLine, keys.Home, keys.Up, keys.Down, keys.Left, keys.Right,
		keys.Delete, keys.EraseEOF, keys.EraseInput, keys.Insert, keys.Reset, keys.Select, keys.Enter, keys.PF, keys.PA, keys.Clear,
	}
}

// keysOf are keys of a kind: with what the kind uses, good and bad.
func keysOf(kind int) []keys.Key {
	switch kind {
	case keys.Char:
		return []keys.Key{{Kind: kind, Sign: 'A'}, {Kind: kind, Sign: '1'}, {Kind: kind, Sign: 0x3b1}, {Kind: kind}}
	case keys.Code:
		return []keys.Key{{Kind: kind, N: 0xc1}, {Kind: kind, N: 0xf1}, {Kind: kind}, {Kind: kind, N: -1}}
	case keys.PF, keys.PA:
		return []keys.Key{{Kind: kind, N: 1}, {Kind: kind, N: 3}, {Kind: kind, N: 0}, {Kind: kind, N: 25}}
	}
	return []keys.Key{{Kind: kind}}
}

// aids are the AIDs with their names and keys, as the chapter lists them.
func aids() map[byte]struct {
	name string
	key  keys.Key
} {
	type entry = struct {
		name string
		key  keys.Key
	}
	l := map[byte]entry{0x7d: {"Enter", keys.Key{Kind: keys.Enter}}, 0x6d: {"Clear", keys.Key{Kind: keys.Clear}}}
	names := []string{"", "PF1", "PF2", "PF3", "PF4", "PF5", "PF6", "PF7", "PF8", "PF9", "PF10", "PF11", "PF12",
		"PF13", "PF14", "PF15", "PF16", "PF17", "PF18", "PF19", "PF20", "PF21", "PF22", "PF23", "PF24"}
	for n := 1; n <= 9; n++ {
		l[0xf0+byte(n)] = entry{names[n], keys.Key{Kind: keys.PF, N: n}}
		l[0xc0+byte(n)] = entry{names[n+12], keys.Key{Kind: keys.PF, N: n + 12}}
	}
	for n := range 3 {
		l[0x7a+byte(n)] = entry{names[n+10], keys.Key{Kind: keys.PF, N: n + 10}}
		l[0x4a+byte(n)] = entry{names[n+22], keys.Key{Kind: keys.PF, N: n + 22}}
	}
	l[0x6c] = entry{"PA1", keys.Key{Kind: keys.PA, N: 1}}
	l[0x6e] = entry{"PA2", keys.Key{Kind: keys.PA, N: 2}}
	l[0x6b] = entry{"PA3", keys.Key{Kind: keys.PA, N: 3}}
	return l
}
