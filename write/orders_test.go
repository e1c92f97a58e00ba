package write_test

import (
	"math"
	"strconv"
	"strings"
	"testing"

	"vitrine/api"
	"vitrine/space"
	"vitrine/write"
)

// checkOrders executes orders from a position, and compares what comes of them.
func checkOrders(t *testing.T, s *space.Space, p string, n, at, pieces int, e api.Errno) {
	t.Helper()
	gotAt, gotPieces, gotE := write.Orders(s, []byte(p), n)
	if gotAt != at || gotPieces != pieces || gotE != e {
		t.Fatalf("%x from %d: %d, %d, %d, want %d, %d, %d", p, n, gotAt, gotPieces, gotE, at, pieces, e)
	}
}

// step is an order that is executed at a place, and what it makes of the cells from there on.
type step struct {
	p     string
	cells []api.Cell
}

// P17.2: what each order writes, at each edge of each screen: at the first and the last place, and across the end.
func TestEachOrderAtTheEdges(t *testing.T) {
	eachScreen(t, func(s *space.Space) {
		for _, n := range edges(s) {
			for _, c := range []step{
				{"\xc1", []api.Cell{char(0xc1)}},
				{"\xc1\x00\xff", []api.Cell{char(0xc1), char(0), char(0xff)}},
				{"\x08\xc5", []api.Cell{{Char: 0xc5, Set: 0xf1}}},
				{"\x1d\x60", []api.Cell{field(0x20)}},
				{"\x29\x00", []api.Cell{field(0)}},
				{"\x29\x02\xc0\xf1\x42\xf4", []api.Cell{{Attr: true, FA: 0x31, Color: 0xf4}}},
				{"\x28\x41\xf2", nil},
			} {
				s.Clear(s.Alternate())
				s.Place(5)
				want := s.Copy()
				for i, cell := range c.cells {
					want.Set(n+i, cell)
				}
				checkOrders(t, s, c.p, n, s.Size().Wrap(n+len(c.cells)), 1, api.OK)
				checkScreen(t, "an order", s, want)
			}
		}
	})
}

// P17.2: SBA and IC at each edge, MF on the attributes there.
func TestPlacesAtTheEdges(t *testing.T) {
	eachScreen(t, func(s *space.Space) {
		for _, n := range edges(s) {
			s.Clear(s.Alternate())
			want := s.Copy()
			checkOrders(t, s, "\x11"+to(n), 7, n, 1, api.OK)
			checkOrders(t, s, "\x11"+to14(n), 7, n, 1, api.OK)
			checkScreen(t, "SBA", s, want)
			checkOrders(t, s, "\x13", n, n, 1, api.OK)
			want.Place(n)
			checkScreen(t, "IC", s, want)
			s.Set(n, api.Cell{Attr: true, FA: 0x21, High: 0xf1, Color: 0xf2, Set: 0xf1})
			checkOrders(t, s, "\x2c\x03\xc0\xff\x42\xf3\x43\x00", n, s.Size().Wrap(n+1), 1, api.OK)
			want.Set(n, api.Cell{Attr: true, FA: 0x3d, High: 0xf1, Color: 0xf3})
			checkScreen(t, "MF", s, want)
		}
	})
}

// P17.2: a text that is longer than the screen goes around it.
func TestLongText(t *testing.T) {
	eachScreen(t, func(s *space.Space) {
		cells := s.Size().Cells()
		text := make([]byte, 2*cells+3)
		want := s.Copy()
		for i := range text {
			text[i] = 0x81 + byte(i%23)
			want.Put(10+i, text[i])
		}
		checkOrders(t, s, string(text), 10, 13, 1, api.OK)
		checkScreen(t, "a long text", s, want)
	})
}

// P17.2: a character takes the place of whatever was there, an attribute and display attributes too, and leaves none of it.
func TestCharactersReplace(t *testing.T) {
	for _, old := range []api.Cell{{}, {Char: 0xc9, High: 0xf1, Color: 0xf2, Set: 0xf1}, {Attr: true, FA: 0x3d, High: 0xf1, Color: 0xf2, Set: 0xf1}} {
		for _, c := range []step{
			{"\x81", []api.Cell{char(0x81)}},
			{"\x08\xc5", []api.Cell{{Char: 0xc5, Set: 0xf1}}},
			{"\x1d\x40", []api.Cell{field(0)}},
			{"\x29\x00", []api.Cell{field(0)}},
			{"\x29\x01\x41\xf8", []api.Cell{{Attr: true, High: 0xf8}}},
			{"\x3c" + to(8) + "\x82", []api.Cell{char(0x82)}},
		} {
			s := empty(t, map[int]api.Cell{7: old})
			checkOrders(t, s, c.p, 7, 8, 1, api.OK)
			checkScreen(t, "replaced", s, empty(t, map[int]api.Cell{7: c.cells[0]}))
		}
	}
}

// P17.2: each byte of SF, of which six bits count without 2; the modified flag is one of them.
func TestEachField(t *testing.T) {
	for b := range 256 {
		s := newSpace(t, 2, false)
		checkOrders(t, s, "\x1d"+string([]byte{byte(b)}), 3, 4, 1, api.OK)
		checkScreen(t, "SF", s, empty(t, map[int]api.Cell{3: field(byte(b) & 0x3d)}))
		s.Clear(false)
		checkOrders(t, s, "\x29\x01\xc0"+string([]byte{byte(b)}), 3, 4, 1, api.OK)
		checkScreen(t, "SFE", s, empty(t, map[int]api.Cell{3: field(byte(b) & 0x3d)}))
		s = empty(t, map[int]api.Cell{3: {Attr: true, FA: 0x14, Color: 0xf5}})
		checkOrders(t, s, "\x2c\x01\xc0"+string([]byte{byte(b)}), 3, 4, 1, api.OK)
		checkScreen(t, "MF", s, empty(t, map[int]api.Cell{3: {Attr: true, FA: byte(b) & 0x3d, Color: 0xf5}}))
	}
}

// P17.2: each code that is no order's, as a text, behind GE and behind RA.
func TestEachCode(t *testing.T) {
	for b := range 256 {
		code := string([]byte{byte(b)})
		if strings.Contains("\x05\x08\x11\x12\x13\x1d\x28\x29\x2c\x3c", code) {
			continue
		}
		s := newSpace(t, 2, false)
		checkOrders(t, s, code+"\x08"+code+"\x3c"+to(4)+code+"\x3c"+to(6)+"\x08"+code, 0, 6, 4, api.OK)
		graph := api.Cell{Char: byte(b), Set: 0xf1}
		checkScreen(t, "code", s, empty(t, map[int]api.Cell{0: char(byte(b)), 1: graph, 2: char(byte(b)), 3: char(byte(b)), 4: graph, 5: graph}))
	}
}

// P17.2: extended attributes are applied in order: of one type the last one counts, and 0 resets what stands before it.
func TestExtendedInOrder(t *testing.T) {
	for _, c := range []struct {
		pairs      string
		begun, mod api.Cell
	}{
		{"\x00", api.Cell{Attr: true}, api.Cell{Attr: true, FA: 0x21, High: 0xf1, Color: 0xf2, Set: 0xf1}},
		{"\x02\x42\xf3\x42\xf4", api.Cell{Attr: true, Color: 0xf4}, api.Cell{Attr: true, FA: 0x21, High: 0xf1, Color: 0xf4, Set: 0xf1}},
		{"\x02\xc0\x60\xc0\x11", field(0x11), api.Cell{Attr: true, FA: 0x11, High: 0xf1, Color: 0xf2, Set: 0xf1}},
		{"\x03\x41\xf8\x00\x00\x43\xf1", api.Cell{Attr: true, Set: 0xf1}, api.Cell{Attr: true, FA: 0x21, Set: 0xf1}},
		{"\x03\xc0\x34\x41\xf8\x00\x00", field(0x34), field(0x34)},
		{"\x03\x41\x00\x42\x00\x43\x00", api.Cell{Attr: true}, field(0x21)},
		{"\x04\x41\xf2\x42\xf7\x43\xf1\xc0\x4d", api.Cell{Attr: true, FA: 0x0d, High: 0xf2, Color: 0xf7, Set: 0xf1}, api.Cell{Attr: true, FA: 0x0d, High: 0xf2, Color: 0xf7, Set: 0xf1}},
		{"\x02\x43\xf1\x43\x00", api.Cell{Attr: true}, api.Cell{Attr: true, FA: 0x21, High: 0xf1, Color: 0xf2}},
	} {
		s := empty(t, map[int]api.Cell{5: char(0xc1)})
		checkOrders(t, s, "\x29"+c.pairs, 5, 6, 1, api.OK)
		checkScreen(t, "SFE "+strconv.Quote(c.pairs), s, empty(t, map[int]api.Cell{5: c.begun}))
		s = empty(t, map[int]api.Cell{5: {Attr: true, FA: 0x21, High: 0xf1, Color: 0xf2, Set: 0xf1}})
		checkOrders(t, s, "\x2c"+c.pairs, 5, 6, 1, api.OK)
		checkScreen(t, "MF "+strconv.Quote(c.pairs), s, empty(t, map[int]api.Cell{5: c.mod}))
	}
}

// P17.2: MF where there is no attribute, also without any attributes of its own.
func TestModifyWithoutAttribute(t *testing.T) {
	for _, pairs := range []string{"\x00", "\x01\xc0\x60", "\x01\x42\xf2"} {
		cells := map[int]api.Cell{4: field(0), 5: {Char: 0xc1, Color: 0xf1}, 6: field(0)}
		s := empty(t, cells)
		checkOrders(t, s, "\x2c"+pairs, 5, 5, 0, api.ErrOrder)
		checkOrders(t, s, "\x2c"+pairs+"\xc1", 7, 7, 0, api.ErrOrder)
		checkOrders(t, s, "\x11"+to(4)+"\x2c"+pairs+"\x2c"+pairs+"\xc1", 7, 5, 2, api.ErrOrder)
		if s.At(5) != cells[5] || s.At(7) != (api.Cell{}) {
			t.Errorf("%x: %v, %v", pairs, s.At(5), s.At(7))
		}
	}
}

// P17.2: SA counts for all characters behind it, of texts, GE and RA, and for no attribute.
func TestDisplayAttributes(t *testing.T) {
	s := newSpace(t, 2, false)
	p := "\xc1\x28\x42\xf2\xc1\x28\x41\xf4\x08\xc5\x3c" + to(5) + "\x82\x3c" + to(7) + "\x08\x83\x1d\x40\x29\x01\xc0\x60\x28\x42\xf3\xc2\x28\x43\xf1\xc3\x28\x43\x00\xc4\x28\x00\x00\xc5\x28\xc0\x60\xc6"
	checkOrders(t, s, p, 0, 14, 19, api.OK)
	checkScreen(t, "SA", s, empty(t, map[int]api.Cell{
		0: char(0xc1), 1: {Char: 0xc1, Color: 0xf2}, 2: {Char: 0xc5, Color: 0xf2, High: 0xf4, Set: 0xf1},
		3: {Char: 0x82, Color: 0xf2, High: 0xf4}, 4: {Char: 0x82, Color: 0xf2, High: 0xf4},
		5: {Char: 0x83, Color: 0xf2, High: 0xf4, Set: 0xf1}, 6: {Char: 0x83, Color: 0xf2, High: 0xf4, Set: 0xf1},
		7: field(0), 8: field(0x20),
		9: {Char: 0xc2, Color: 0xf3, High: 0xf4}, 10: {Char: 0xc3, Color: 0xf3, High: 0xf4, Set: 0xf1}, 11: {Char: 0xc4, Color: 0xf3, High: 0xf4},
		12: char(0xc5), 13: char(0xc6),
	}))
}

// P17.2: behind a graphic escape the set is again that of SA.
func TestSetBehindEscape(t *testing.T) {
	s := newSpace(t, 2, false)
	checkOrders(t, s, "\x08\xc5\xc1\x3c"+to(3)+"\x08\xc5\xc2\x28\x43\xf1\xc3\x08\xc5\xc4", 0, 7, 8, api.OK)
	graph := func(code byte) api.Cell { return api.Cell{Char: code, Set: 0xf1} }
	checkScreen(t, "sets", s, empty(t, map[int]api.Cell{0: graph(0xc5), 1: char(0xc1), 2: graph(0xc5), 3: char(0xc2), 4: graph(0xc3), 5: graph(0xc5), 6: graph(0xc4)}))
}

// P17.2: the next record begins without display attributes.
func TestDisplayAttributesOfNextRecord(t *testing.T) {
	s := newSpace(t, 2, false)
	for _, record := range []string{"\xf1\xc3\x28\x42\xf2\xc1\x13", "\xf1\xc3\xc1\x13\x28\x41\xf1", "\x01\x00\x28\x43\xf1\x11", "\xf1\x00\x11" + to(3) + "\xc2"} {
		write.Run(s, []byte(record))
	}
	want := empty(t, map[int]api.Cell{0: {Char: 0xc1, Color: 0xf2}, 1: char(0xc1), 3: char(0xc2)})
	want.Place(2)
	checkScreen(t, "records", s, want)
	checkOrders(t, s, "\x28\x42\xf2", 5, 5, 1, api.OK)
	checkOrders(t, s, "\xc3", 5, 6, 1, api.OK)
	want.Put(5, 0xc3)
	checkScreen(t, "orders", s, want)
}

// P17.2: EUA to its own place nulls all that is not protected; the buffer address is the place it goes to.
func TestEraseToAddress(t *testing.T) {
	eachScreen(t, func(empty *space.Space) {
		cells := empty.Size().Cells()
		for _, formatted := range []bool{false, true} {
			for _, from := range edges(empty) {
				for _, end := range edges(empty) {
					s := filled(t, empty.Model(), empty.Alternate())
					if formatted {
						s.Set(80, field(0x21))
						s.Set(700, field(0x11))
					}
					s.Place(9)
					want := s.Copy()
					for n := from; ; n = (n + 1) % cells {
						if !formatted || n > 700 || n < 80 {
							want.Put(n, 0)
						}
						if (n+1)%cells == end {
							break
						}
					}
					checkOrders(t, s, "\x12"+to(end), from, end, 1, api.OK)
					checkScreen(t, "EUA", s, want)
				}
			}
		}
	})
}

// P17.2: RA sets all positions up to its address, attributes and protected ones too; to its own place, all.
func TestRepeatToAddress(t *testing.T) {
	eachScreen(t, func(empty *space.Space) {
		cells := empty.Size().Cells()
		for _, code := range []string{"\x60", "\x08\xc4", "\x00"} {
			for _, from := range edges(empty) {
				for _, end := range edges(empty) {
					s := filled(t, empty.Model(), empty.Alternate())
					s.Set(80, field(0x21))
					s.Set(700, field(0x11))
					s.Place(9)
					want := s.Copy()
					c := api.Cell{Char: code[len(code)-1]}
					if len(code) == 2 {
						c.Set = 0xf1
					}
					for n := from; ; n = (n + 1) % cells {
						want.Set(n, c)
						if (n+1)%cells == end {
							break
						}
					}
					checkOrders(t, s, "\x3c"+to(end)+code, from, end, 1, api.OK)
					checkScreen(t, "RA", s, want)
				}
			}
		}
	})
}

// P17.2: addresses beyond the screen, of 12 and of 14 bits; nothing of the order is executed.
func TestAddressBeyondScreen(t *testing.T) {
	eachScreen(t, func(empty *space.Space) {
		cells := empty.Size().Cells()
		for _, n := range []int{cells, cells + 1, 4095, 16383} {
			addresses := []string{to14(n)}
			if n < 4096 {
				addresses = append(addresses, to(n))
			}
			for _, address := range addresses {
				for _, p := range []string{"\x11" + address, "\x12" + address, "\x3c" + address + "\xc1", "\x3c" + address + "\x08\xc5"} {
					s := filled(t, empty.Model(), empty.Alternate())
					s.Place(9)
					want := s.Copy()
					checkOrders(t, s, p, 5, 5, 0, api.ErrAddr)
					checkScreen(t, "an address", s, want)
					checkOrders(t, s, "\xc1\xc2\x13"+p+"\xc3", 5, 7, 2, api.ErrAddr)
					want.Set(5, char(0xc1))
					want.Set(6, char(0xc2))
					want.Place(7)
					checkScreen(t, "an address behind others", s, want)
				}
			}
		}
	})
}

// P17.2: an element that cannot be parsed has the error of layer 16; Pieces are those before it, which remain in effect.
func TestUnparsable(t *testing.T) {
	for _, c := range []struct {
		p string
		e api.Errno
	}{
		{"\x11", api.ErrShort}, {"\x11\x40", api.ErrShort}, {"\x11\x80\x40", api.ErrAddr}, {"\x12\x5d", api.ErrShort}, {"\x12\xbf\x40", api.ErrAddr},
		{"\x3c\x40\x40", api.ErrShort}, {"\x3c\x40\x40\x08", api.ErrShort}, {"\x3c\x40\x40\x11", api.ErrOrder}, {"\x3c\x40\x40\x08\x05", api.ErrOrder}, {"\x3c\x80\x40\xc1", api.ErrAddr},
		{"\x1d", api.ErrShort}, {"\x28", api.ErrShort}, {"\x28\x42", api.ErrShort}, {"\x28\x42\x01", api.ErrOrder}, {"\x28\x44\x00", api.ErrOrder},
		{"\x29", api.ErrShort}, {"\x29\x01\x42", api.ErrShort}, {"\x29\x01\x42\xf8", api.ErrOrder}, {"\x29\x02\xc0\x60\x00\x01", api.ErrOrder},
		{"\x2c", api.ErrShort}, {"\x2c\x02\xc0\x60", api.ErrShort}, {"\x2c\x01\x41\xf3", api.ErrOrder}, {"\x08", api.ErrShort}, {"\x08\x13", api.ErrOrder},
	} {
		for pieces, before := range []string{"", "\xc1\xc2", "\xc1\x08\xc5", "\xc1\x1d\x60\x13", "\x1d\x40\x11" + to(5) + "\x2c\x01\xc0\x60\x13"} {
			s, want := filled(t, 2, false), filled(t, 2, false)
			s.Place(9)
			want.Place(9)
			at, _, _ := write.Orders(want, []byte(before), 5)
			checkOrders(t, s, before+c.p, 5, at, pieces, c.e)
			checkScreen(t, "orders", s, want)
			s, want = filled(t, 2, false), filled(t, 2, false)
			s.Place(5)
			want.Place(5)
			write.Orders(want, []byte(before), 5)
			checkRun(t, s, "\xf1\xc6"+before+c.p, write.Result{Command: 1, Pieces: pieces}, c.e)
			checkScreen(t, "a record", s, want)
		}
	}
}

// P17.2: nothing is executed behind an error.
func TestNothingBehindError(t *testing.T) {
	for _, bad := range []string{"\x08\x08", "\x11" + to(1920), "\x11\x80\x40", "\x2c\x00", "\x28\x42\x01", "\x29\x01\x44\x44"} {
		s := newSpace(t, 2, false)
		want := s.Copy()
		_, pieces, e := write.Orders(s, []byte(bad+"\xc1\x13\x1d\x60\x3c"+to(50)+"\xc1"), 5)
		if pieces != 0 || e == api.OK {
			t.Errorf("%x: %d, %d", bad, pieces, e)
		}
		checkScreen(t, "behind an error", s, want)
	}
}

// P17.2: from any number, which stands for a position; without orders that is where it ends.
func TestFromAnyNumber(t *testing.T) {
	eachScreen(t, func(s *space.Space) {
		cells := s.Size().Cells()
		for _, n := range []int{0, 1, -1, cells - 1, cells, cells + 5, -cells, -cells - 3, 10*cells + 7, math.MaxInt, math.MinInt, math.MaxInt - 1} {
			at := (n%cells + cells) % cells
			s.Clear(s.Alternate())
			s.Place(3)
			want := s.Copy()
			checkOrders(t, s, "", n, at, 0, api.OK)
			checkOrders(t, s, "\x11", n, at, 0, api.ErrShort)
			checkOrders(t, s, "\x28\x42\xf2", n, at, 1, api.OK)
			checkScreen(t, "nothing", s, want)
			checkOrders(t, s, "\xc1\x13", n, (at+1)%cells, 2, api.OK)
			want.Put(at, 0xc1)
			want.Place(at + 1)
			checkScreen(t, "a character", s, want)
			checkOrders(t, s, "\x05", n, 0, 1, api.OK)
		}
	})
	s := newSpace(t, 2, false)
	if at, pieces, e := write.Orders(s, nil, 1925); at != 5 || pieces != 0 || e != api.OK {
		t.Errorf("nil: %d, %d, %d", at, pieces, e)
	}
}

// P17.2: IC takes the cursor to the buffer address, the last one counts, and no other order moves it.
func TestInsertCursor(t *testing.T) {
	s := newSpace(t, 2, false)
	s.Place(700)
	checkOrders(t, s, "\xc1\x1d\x60\x11"+to(20)+"\x12"+to(30)+"\x3c"+to(40)+"\x60\x05\x08\xc5\x28\x42\xf1\x29\x00", 0, 2, 9, api.OK)
	if s.Cursor() != 700 {
		t.Errorf("the cursor is at %d", s.Cursor())
	}
	checkOrders(t, s, "\x11"+to(20)+"\x13\xc1\xc2\x13\xc3", 0, 23, 5, api.OK)
	if s.Cursor() != 22 {
		t.Errorf("the cursor is at %d", s.Cursor())
	}
}
