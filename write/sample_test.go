package write_test

import (
	"math/rand/v2"
	"testing"

	"vitrine/addr"
	"vitrine/api"
	"vitrine/space"
	"vitrine/write"
)

// newSpace makes an empty space of a model, with its alternate or the default size.
func newSpace(t *testing.T, model int, alternate bool) *space.Space {
	t.Helper()
	s, e := space.New(model)
	if e != api.OK {
		t.Fatal(e)
	}
	s.Clear(alternate)
	return s
}

// eachScreen runs a test with the empty screen of each model in both sizes.
func eachScreen(t *testing.T, test func(s *space.Space)) {
	t.Helper()
	for model := 2; model <= 5; model++ {
		test(newSpace(t, model, false))
		test(newSpace(t, model, true))
	}
}

// filled makes a space without attributes, in which every cell has a character and all display attributes.
func filled(t *testing.T, model int, alternate bool) *space.Space {
	t.Helper()
	s := newSpace(t, model, alternate)
	for n := range s.Size().Cells() {
		s.Set(n, fill(n))
	}
	return s
}

// fill is the cell at n of a filled space.
func fill(n int) api.Cell {
	return api.Cell{Char: 0x81 + byte(n%7), High: 0xf1, Color: 0xf2, Set: 0xf1}
}

// empty makes a space of 24 rows of 80 with these cells, and no others.
func empty(t *testing.T, cells map[int]api.Cell) *space.Space {
	t.Helper()
	s := newSpace(t, 2, false)
	for n, c := range cells {
		s.Set(n, c)
	}
	return s
}

// field is an attribute with these six bits.
func field(bits byte) api.Cell {
	return api.Cell{Attr: true, FA: bits}
}

// char is a character without display attributes.
func char(code byte) api.Cell {
	return api.Cell{Char: code}
}

// checkScreen compares the cells, the cursor and the size of a screen with those of another one.
func checkScreen(t *testing.T, what string, s, want *space.Space) {
	t.Helper()
	if s.Size() != want.Size() || s.Model() != want.Model() || s.Alternate() != want.Alternate() {
		t.Fatalf("%s: the screen is that of model %d with %v, alternate %v", what, s.Model(), s.Size(), s.Alternate())
	}
	for _, n := range s.Diff(want) {
		t.Fatalf("%s: at %d there is %v, want %v", what, n, s.At(n), want.At(n))
	}
	if s.Cursor() != want.Cursor() {
		t.Fatalf("%s: the cursor is at %d, want %d", what, s.Cursor(), want.Cursor())
	}
}

// edges are positions at the beginning and at the end of a screen, and some between them.
func edges(s *space.Space) []int {
	cells := s.Size().Cells()
	return []int{0, 1, 2, 79, 80, 81, 700, cells - 3, cells - 2, cells - 1}
}

// to is the address of a position as it is sent: 12 bits.
func to(n int) string {
	return string([]byte{addr.Six(n >> 6), addr.Six(n)})
}

// to14 is the address in 14 bits.
func to14(n int) string {
	return string([]byte{byte(n >> 8), byte(n)})
}

// scatter lays cells out by chance: characters, nulls, and attributes at some of every few positions.
func scatter(r *rand.Rand, s *space.Space, every int) {
	for n := range s.Size().Cells() {
		c := api.Cell{Char: byte(r.IntN(3)) * 0xc1, High: 0xf1 * byte(r.IntN(2)), Color: 0xf2 * byte(r.IntN(2)), Set: 0xf1 * byte(r.IntN(2))}
		if every > 0 && r.IntN(every) == 0 {
			c.Attr, c.FA = true, byte(r.IntN(64))
		}
		s.Set(n, c)
	}
	s.Place(r.IntN(s.Size().Cells()))
}

// runWell runs a record in which there is no error.
func runWell(t *testing.T, s *space.Space, record string) {
	t.Helper()
	if _, e := write.Run(s, []byte(record)); e != api.OK {
		t.Fatalf("%x: error %d", record, e)
	}
}
