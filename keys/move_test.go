package keys_test

import (
	"testing"

	"vitrine/api"
	"vitrine/cursor"
	"vitrine/erase"
	"vitrine/keys"
	"vitrine/space"
)

// layouts are screens of every kind for keys that go by layers 14 and 15.
func layouts() []cells {
	return []cells{
		nil,
		{5: char(0xc1), 1919: char(0xc2), 0: char(0xc3)},
		lockable(),
		{0: field(0x30), 5: field(0), 6: char(0xc1), 8: char(0xc2), 79: char(0xc3), 80: char(0xc4), 1900: field(0x20), 1905: char(0xc5)},
		{3: field(0x20), 700: field(0x31)},
		{1919: field(0x01), 1: char(0xc1), 2: char(0xc2), 40: field(0x3d), 79: field(0), 80: field(0), 160: field(0x20)},
		{700: field(0), 1918: char(0xc1), 1919: char(0xc2), 0: char(0xc3)},
		{10: {Attr: true, High: 0xf1}, 11: {Char: 0xc1, High: 0xf2, Color: 0xf3, Set: 0xf1}, 12: {Char: 0xc2, Set: 0xf1}, 20: {Attr: true, FA: 0x21, Color: 0xf7}},
	}
}

// places are positions at the ends of the screen, of rows, and around what is on the layouts.
func places() []int {
	return []int{0, 1, 2, 3, 5, 6, 7, 8, 9, 10, 11, 12, 20, 21, 22, 79, 80, 81, 159, 160, 700, 701, 1839, 1840, 1899, 1900, 1905, 1918, 1919}
}

// The keys that move the cursor do what layer 15 does, and change no cell; so in both modes.
func TestMoves(t *testing.T) {
	for kind, move := range map[int]func(s *space.Space){
		keys.Tab: cursor.Tab, keys.BackTab: cursor.BackTab, keys.NewLine: cursor.NewLine, keys.Home: cursor.Home,
		keys.Up:    func(s *space.Space) { cursor.Move(s, -1, 0) },
		keys.Down:  func(s *space.Space) { cursor.Move(s, 1, 0) },
		keys.Left:  func(s *space.Space) { cursor.Move(s, 0, -1) },
		keys.Right: func(s *space.Space) { cursor.Move(s, 0, 1) },
	} {
		for _, l := range layouts() {
			for _, n := range places() {
				s, b := on(t, l, n)
				want := s.Copy()
				move(want)
				do(t, b, kind)
				sameScreen(t, "a move", s, want)
				checkState(t, "a move", b, state{0, false, 0x60})
				do(t, b, keys.Insert, kind)
				move(want)
				sameScreen(t, "a move in insert mode", s, want)
				checkState(t, "a move in insert mode", b, state{0, true, 0x60})
			}
		}
	}
}

// The moves with fixed answers.
func TestMovesFixed(t *testing.T) {
	l := cells{4: field(0), 9: field(0x20), 90: field(0), 95: field(0x30)}
	for _, c := range []struct{ kind, from, to int }{
		{keys.Tab, 5, 91}, {keys.Tab, 91, 5}, {keys.Tab, 9, 91}, {keys.BackTab, 5, 91}, {keys.BackTab, 7, 5}, {keys.BackTab, 91, 5},
		{keys.NewLine, 3, 91}, {keys.NewLine, 91, 5}, {keys.Home, 700, 5}, {keys.Up, 3, 1843}, {keys.Up, 83, 3}, {keys.Down, 1843, 3}, {keys.Down, 9, 89},
		{keys.Left, 0, 1919}, {keys.Left, 80, 79}, {keys.Right, 1919, 0}, {keys.Right, 79, 80},
	} {
		s, b := on(t, l, c.from)
		do(t, b, c.kind)
		checkScreen(t, "a move", s, l, c.to)
	}
}

// Delete, EraseEOF and EraseInput do what layer 14 does; where it refuses, the keyboard locks.
func TestEdits(t *testing.T) {
	for kind, edit := range map[int]func(s *space.Space, n int) bool{
		keys.Delete: erase.Delete, keys.EraseEOF: erase.End,
		keys.EraseInput: func(s *space.Space, n int) bool { erase.Unprotected(s); return true },
	} {
		for _, l := range layouts() {
			for _, n := range places() {
				for _, insert := range []bool{false, true} {
					s, b := on(t, l, n)
					if insert {
						do(t, b, keys.Insert)
					}
					want := s.Copy()
					if edit(want, n) {
						do(t, b, kind)
						checkState(t, "an edit", b, state{0, insert, 0x60})
					} else {
						press(t, b, keys.Key{Kind: kind}, false, api.ErrProtect)
						checkState(t, "an edit", b, state{2, insert, 0x60})
					}
					sameScreen(t, "an edit", s, want)
				}
			}
		}
	}
}

// The edits with fixed answers: in a field that is not modified, at its attribute, in a protected one, and without fields.
func TestEditsFixed(t *testing.T) {
	l := cells{0: field(0), 1: char(0xc1), 2: char(0xc2), 4: char(0xc4), 5: field(0x21), 6: char(0xc6), 9: field(0x11), 10: char(0xc9)}
	for _, c := range []struct {
		kind, n int
		e       api.Errno
		want    cells
		cursor  int
	}{
		{keys.Delete, 1, api.OK, cells{0: field(1), 1: char(0xc2), 3: char(0xc4), 5: field(0x21), 6: char(0xc6), 9: field(0x11), 10: char(0xc9)}, 1},
		{keys.Delete, 4, api.OK, cells{0: field(1), 1: char(0xc1), 2: char(0xc2), 5: field(0x21), 6: char(0xc6), 9: field(0x11), 10: char(0xc9)}, 4},
		{keys.Delete, 5, api.ErrProtect, l, 5},
		{keys.Delete, 6, api.ErrProtect, l, 6},
		{keys.EraseEOF, 2, api.OK, cells{0: field(1), 1: char(0xc1), 5: field(0x21), 6: char(0xc6), 9: field(0x11), 10: char(0xc9)}, 2},
		{keys.EraseEOF, 0, api.ErrProtect, l, 0},
		{keys.EraseEOF, 7, api.ErrProtect, l, 7},
		{keys.EraseInput, 7, api.OK, cells{0: field(0), 5: field(0x21), 6: char(0xc6), 9: field(0x10)}, 1},
	} {
		s, b := on(t, l, c.n)
		press(t, b, keys.Key{Kind: c.kind}, false, c.e)
		checkScreen(t, "an edit", s, c.want, c.cursor)
	}
	s, b := on(t, cells{78: char(0xc1), 79: char(0xc2), 80: char(0xc3), 1919: char(0xc4)}, 78)
	do(t, b, keys.Delete)
	checkScreen(t, "Delete", s, cells{78: char(0xc2), 80: char(0xc3), 1919: char(0xc4)}, 78)
	do(t, b, keys.Down, keys.EraseEOF)
	checkScreen(t, "EraseEOF", s, cells{78: char(0xc2), 80: char(0xc3)}, 158)
	do(t, b, keys.EraseInput)
	checkScreen(t, "EraseInput", s, nil, 0)
}
