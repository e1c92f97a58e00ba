package entry_test

import (
	"bytes"
	"iter"
	"math/rand/v2"
	"slices"
	"testing"

	"vitrine/api"
	"vitrine/entry"
	"vitrine/order"
	"vitrine/read"
	"vitrine/space"
	"vitrine/write"
)

// P20.2: each order and text of a Read Buffer, and the cells that it makes.
func TestBuffer(t *testing.T) {
	field := func(bits byte) api.Cell { return api.Cell{Attr: true, FA: bits} }
	char := func(code byte) api.Cell { return api.Cell{Char: code} }
	for _, v := range []struct {
		rest string
		want []api.Cell
	}{
		{"", nil},
		{"\xc1\x00\xff", []api.Cell{char(0xc1), char(0), char(0xff)}},
		{"\x08\xc5\xc1\x08\x00", []api.Cell{{Char: 0xc5, Set: 0xf1}, char(0xc1), {Set: 0xf1}}},
		{"\x1d\x60\xc1\x1d\xc1", []api.Cell{field(0x20), char(0xc1), field(0x01)}},
		{"\x29\x00\x29\x01\xc0\xf0\xc1", []api.Cell{field(0), field(0x30), char(0xc1)}},
		{"\x29\x04\xc0\x60\x41\xf4\x42\xf2\x43\xf1\xc1", []api.Cell{{Attr: true, FA: 0x20, High: 0xf4, Color: 0xf2, Set: 0xf1}, char(0xc1)}},
		{"\x29\x05\x42\xf1\xc0\x60\x42\xf2\x41\xf1\xc0\x40", []api.Cell{{Attr: true, High: 0xf1, Color: 0xf2}}},
		{"\x29\x03\x42\xf1\xc0\x60\x00\x00", []api.Cell{field(0x20)}},
		{"\x28\x42\xf1\xc1\xc2\x28\x41\xf4\xc3\x28\x42\x00\xc4", []api.Cell{{Char: 0xc1, Color: 0xf1}, {Char: 0xc2, Color: 0xf1}, {Char: 0xc3, Color: 0xf1, High: 0xf4}, {Char: 0xc4, High: 0xf4}}},
		{"\x28\x42\xf1\x28\x43\xf1\xc1\x28\x00\x00\xc2", []api.Cell{{Char: 0xc1, Color: 0xf1, Set: 0xf1}, char(0xc2)}},
		{"\x28\x42\xf1\x08\xc5\xc1", []api.Cell{{Char: 0xc5, Color: 0xf1, Set: 0xf1}, {Char: 0xc1, Color: 0xf1}}},
		{"\x28\x43\xf1\x08\xc5\xc1\x28\x43\x00\x08\xc5\xc1", []api.Cell{{Char: 0xc5, Set: 0xf1}, {Char: 0xc1, Set: 0xf1}, {Char: 0xc5, Set: 0xf1}, char(0xc1)}},
		{"\x28\x42\xf1\x1d\x60\x29\x01\xc0\x40\xc1", []api.Cell{field(0x20), field(0), {Char: 0xc1, Color: 0xf1}}},
		{"\x29\x01\x42\xf2\x28\x41\xf4\xc1", []api.Cell{{Attr: true, Color: 0xf2}, {Char: 0xc1, High: 0xf4}}},
		{"\x28\xc0\x60\xc1", []api.Cell{char(0xc1)}},
	} {
		expectCells(t, front+v.rest, v.want, 2, api.OK)
		expectReplay(t, front+v.rest, v.rest+"\x11"+to(2)+"\x13", api.OK)
	}
	for b := range 256 {
		bits := byte(b) & 0x3d
		expectCells(t, front+"\x1d"+string([]byte{byte(b)})+"\x29\x01\xc0"+string([]byte{byte(b)}), []api.Cell{field(bits), field(bits)}, 2, api.OK)
	}
}

// P20.2: every address of the cursor; for Replay it is one of 12 bits.
func TestBufferCursor(t *testing.T) {
	for i := range 65536 {
		a, b := byte(i>>8), byte(i)
		n, e := wantAddress(a, b), api.OK
		if n < 0 {
			n, e = 0, api.ErrAddr
		}
		front := string([]byte{0x7d, a, b})
		expectCells(t, front, nil, n, e)
		switch {
		case e != api.OK:
			expectFault(t, front+"\x11", e)
		case n > 4095:
			expectReplay(t, front+"\xc1", "", api.ErrAddr)
		default:
			expectReplay(t, front+"\xc1", "\xc1\x11"+to(n)+"\x13", api.OK)
		}
	}
}

// expectFault sees that Buffer and Replay return an error.
func expectFault(t *testing.T, p string, e api.Errno) {
	t.Helper()
	expectCells(t, p, nil, 0, e)
	expectReplay(t, p, "", e)
}

// P20.2: each error, and which comes first: ErrShort, that of the cursor, those of layer 16, ErrForm, and for Replay a cursor above 4095.
func TestBufferErrors(t *testing.T) {
	for _, p := range []string{"", "\x7d", "\x6d", "\x7d\x40", "\x7d\x80", "\x6d\xbf"} {
		expectFault(t, p, api.ErrShort)
	}
	if l, n, e := entry.Buffer(nil); l != nil || n != 0 || e != api.ErrShort {
		t.Errorf("Buffer of nil: %v, %d, %d", l, n, e)
	}
	if p, e := entry.Replay(nil, true); p != nil || e != api.ErrShort {
		t.Errorf("Replay of nil: %x, %d", p, e)
	}
	others := []string{"\x05", "\x11\x40\x40", "\x12\x40\x40", "\x13", "\x2c\x00", "\x2c\x01\x42\xf1", "\x3c\x40\x40\xc1", "\x3c\x40\x40\x08\xc5", "\x11\x3f\xff"}
	faults := map[string]api.Errno{"\x11": api.ErrShort, "\x1d": api.ErrShort, "\x08": api.ErrShort, "\x28\x42": api.ErrShort, "\x29\x01\xc0": api.ErrShort,
		"\x11\x80\x40": api.ErrAddr, "\x28\x42\xf8": api.ErrOrder, "\x08\x08": api.ErrOrder, "\x29\x01\x99\x00": api.ErrOrder}
	for _, cursor := range []string{to(2), to14(81), to14(4095), to14(4096), to14(16383)} {
		for _, before := range []string{"", "\xc1", "\x1d\x40", "\x28\x42\xf1"} {
			for _, other := range others {
				expectFault(t, "\x60"+cursor+before+other, api.ErrForm)
				expectFault(t, "\x60"+cursor+before+other+"\xc1\x13", api.ErrForm)
				for fault, e := range faults {
					expectFault(t, "\x60"+cursor+before+fault, e)
					expectFault(t, "\x60"+cursor+before+other+fault, e)
					expectFault(t, "\x60\x80\x40"+before+other+fault, api.ErrAddr)
				}
			}
		}
	}
	expectReplay(t, "\x60"+to14(4096), "", api.ErrAddr)
	expectReplay(t, "\x60"+to14(4095)+"\xc1", "\xc1\x11\x7f\x7f\x13", api.OK)
}

// wantCells are the cells of a list of orders, as the chapter tells them, or ErrForm.
func wantCells(l []order.Op) ([]api.Cell, api.Errno) {
	var cells []api.Cell
	look := api.Cell{}
	for _, o := range l {
		switch o.Kind {
		case order.SF:
			cells = append(cells, api.Cell{Attr: true, FA: o.FA & 0x3d})
		case order.SFE:
			c := api.Cell{Attr: true}
			for _, p := range o.Pairs {
				c = changed(c, p.Type, p.Value)
			}
			cells = append(cells, c)
		case order.SA:
			look = changed(look, o.Pairs[0].Type, o.Pairs[0].Value)
			look.FA = 0
		case order.Text:
			for _, code := range o.Text {
				c := look
				c.Char = code
				cells = append(cells, c)
			}
		case order.GE:
			cells = append(cells, api.Cell{Char: o.Code, High: look.High, Color: look.Color, Set: 0xf1})
		default:
			return nil, api.ErrForm
		}
	}
	return cells, api.OK
}

func changed(c api.Cell, kind, value byte) api.Cell {
	switch kind {
	case 0:
		c.High, c.Color, c.Set = 0, 0, 0
	case 0x41:
		c.High = value
	case 0x42:
		c.Color = value
	case 0x43:
		c.Set = value
	case 0xc0:
		c.FA = value & 0x3d
	}
	return c
}

// P20.2: bytes by chance; with an error Buffer returns that of layer 16 first.
func TestBufferRandomBytes(t *testing.T) {
	r := rand.New(rand.NewPCG(20, 2))
	for _, from := range []string{
		"\x08\x1d\x28\x29\x28\x29\x00\x01\x02\x41\x42\x43\xc0\xf1\xf1\xc5",
		"\x05\x08\x11\x12\x13\x1d\x28\x29\x2c\x3c\x00\x01\x40\x41\x42\x43\xc0\xc1\xf1\xf2\x80\xff",
	} {
		for range 20000 {
			rest := []byte{}
			for range r.IntN(16) {
				rest = append(rest, from[r.IntN(len(from))])
			}
			l, _, e := order.All(rest)
			var want []api.Cell
			if e == api.OK {
				want, e = wantCells(l)
			}
			cursor := 2
			if e != api.OK {
				cursor = 0
			}
			expectCells(t, front+string(rest), want, cursor, e)
			expectReplay(t, front+string(rest), string(rest)+"\x11"+to(2)+"\x13", e)
		}
	}
}

// readable is what a mode tells of a cell: without mode 2 the highlighting and the color of characters are lost, and in mode 0 those of attributes, too.
func readable(c api.Cell, mode int) api.Cell {
	if isOrder(c.Char) {
		c.Char = 0x3f
	}
	if mode == 2 || mode == 1 && c.Attr {
		return c
	}
	c.High, c.Color = 0, 0
	if c.Attr {
		c.Set = 0
	}
	return c
}

// checkBuffered compares what Buffer returns of a screen that was read with what the mode tells of it.
func checkBuffered(t *testing.T, s *space.Space, p []byte, mode int) {
	t.Helper()
	l, n, e := entry.Buffer(p)
	if e != api.OK || n != s.Cursor() || len(l) != s.Size().Cells() {
		t.Fatalf("Buffer: %d cells, %d, %d", len(l), n, e)
	}
	var marks []entry.Mark
	for i, c := range s.All() {
		if want := readable(c, mode); l[i] != want {
			t.Fatalf("mode %d: at %d there is %v, want %v", mode, i, l[i], want)
		}
		if c.Attr {
			marks = append(marks, entry.Mark{Place: i, Cell: l[i]})
		}
	}
	if got := entry.Fields(l); !slices.Equal(got, marks) {
		t.Fatalf("Fields: %v, want %v", got, marks)
	}
}

// checkReplayed runs what Replay returns on a screen that has other things on it.
func checkReplayed(t *testing.T, s, other *space.Space, p []byte, mode int) {
	t.Helper()
	record, e := entry.Replay(p, s.Alternate())
	if e != api.OK {
		t.Fatal(e)
	}
	result, e := write.Run(other, record)
	if e != api.OK || !result.Reset || result.Restore || result.Alarm {
		t.Fatalf("%v, %d", result, e)
	}
	if other.Size() != s.Size() || other.Cursor() != s.Cursor() {
		t.Fatalf("the size is %v, the cursor is at %d", other.Size(), other.Cursor())
	}
	for n, c := range s.All() {
		if got := other.At(n); got != readable(c, mode) {
			t.Fatalf("mode %d: at %d there is %v, want %v", mode, n, got, readable(c, mode))
		}
	}
	if mode == 2 && !slices.ContainsFunc(slices.Collect(chars(s)), isOrder) && s.Model() == other.Model() && !other.Same(s) {
		t.Fatal("the screens are not the same")
	}
	// Read again, it is the same.
	if again, _ := read.Buffer(other, p[0], mode); !bytes.Equal(again, p) {
		t.Fatalf("mode %d: read again, it is %.80x, want %.80x", mode, again, p)
	}
}

// chars yields the codes on a screen.
func chars(s *space.Space) iter.Seq[byte] {
	return func(yield func(byte) bool) {
		for _, c := range s.All() {
			if !yield(c.Char) {
				return
			}
		}
	}
}

// P20.2 and P20.3: what is read from screens by chance is parsed, and replayed on other screens of that size, whatever was on them.
func TestReadAndReplay(t *testing.T) {
	r := rand.New(rand.NewPCG(20, 3))
	for _, every := range []int{0, 1, 2, 5, 60, 800} {
		for model := 2; model <= 5; model++ {
			for _, alternate := range []bool{false, true} {
				for _, plain := range []bool{false, true} {
					s := newScreen(t, model, alternate)
					scatter(r, s, every, plain)
					for mode := range 3 {
						p, _ := read.Buffer(s, 0x60, mode)
						checkBuffered(t, s, p, mode)
						other := newScreen(t, model, r.IntN(2) == 0)
						scatter(r, other, 7, false)
						checkReplayed(t, s, other, p, mode)
						if !alternate {
							other = newScreen(t, 7-model, r.IntN(2) == 0)
							scatter(r, other, 7, false)
							checkReplayed(t, s, other, p, mode)
						}
					}
				}
			}
		}
	}
}

// P20.2: attributes among cells, whatever is in them, also where there is none.
func TestFields(t *testing.T) {
	a, b := api.Cell{Attr: true, FA: 0x3f, Char: 0x99, High: 0x77}, api.Cell{Attr: true}
	for _, v := range []struct {
		l    []api.Cell
		want []entry.Mark
	}{
		{nil, nil},
		{[]api.Cell{}, nil},
		{[]api.Cell{{}, {Char: 0xc1, FA: 0x20}}, nil},
		{[]api.Cell{a}, []entry.Mark{{Place: 0, Cell: a}}},
		{[]api.Cell{{Char: 0xc1}, b, {}, a, a, {}, b}, []entry.Mark{{1, b}, {3, a}, {4, a}, {6, b}}},
	} {
		kept := slices.Clone(v.l)
		if got := entry.Fields(v.l); !slices.Equal(got, v.want) || !slices.Equal(v.l, kept) {
			t.Errorf("Fields of %v: %v, want %v", v.l, got, v.want)
		}
	}
}
