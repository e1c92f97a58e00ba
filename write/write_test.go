package write_test

import (
	"bytes"
	"math"
	"strconv"
	"testing"

	"vitrine/api"
	"vitrine/space"
	"vitrine/write"
)

// command is what the chapter says of a command.
type command struct {
	number int
	name   string
	bytes  [2]byte
	reads  bool
	erases bool
}

func commands() []command {
	return []command{
		{0, "Nothing", [2]byte{0x03, 0x03}, false, false},
		{1, "Write", [2]byte{0x01, 0xf1}, false, false},
		{2, "EraseWrite", [2]byte{0x05, 0xf5}, false, true},
		{3, "EraseAlternate", [2]byte{0x0d, 0x7e}, false, true},
		{4, "EraseUnprotected", [2]byte{0x0f, 0x6f}, false, true},
		{5, "ReadBuffer", [2]byte{0x02, 0xf2}, true, false},
		{6, "ReadModified", [2]byte{0x06, 0xf6}, true, false},
		{7, "ReadAll", [2]byte{0x0e, 0x6e}, true, false},
		{8, "Structured", [2]byte{0x11, 0xf3}, false, false},
	}
}

// isCommand reports whether a byte is one of a command.
func isCommand(b byte) bool {
	for _, c := range commands() {
		if b == c.bytes[0] || b == c.bytes[1] {
			return true
		}
	}
	return false
}

// P17.1: each command by both bytes, and back by the second one.
func TestCommands(t *testing.T) {
	for _, c := range commands() {
		for _, b := range c.bytes {
			if got, ok := write.Command(b); got != c.number || !ok {
				t.Errorf("Command(%x) is %d, %v, want %d", b, got, ok, c.number)
			}
		}
		if got := write.Byte(c.number); got != c.bytes[1] {
			t.Errorf("Byte(%d) is %x, want %x", c.number, got, c.bytes[1])
		}
		if got := write.Name(c.number); got != c.name {
			t.Errorf("Name(%d) is %q, want %q", c.number, got, c.name)
		}
		if write.Reads(c.number) != c.reads || write.Erases(c.number) != c.erases {
			t.Errorf("%s: Reads is %v, Erases is %v", c.name, write.Reads(c.number), write.Erases(c.number))
		}
	}
}

// P17.1: the constants are the numbers.
func TestConstants(t *testing.T) {
	constants := []int{
		write.Nothing, write.Write, write.EraseWrite, write.EraseAlternate, write.EraseUnprotected,
		write.ReadBuffer, write.ReadModified, write.ReadAll, write.Structured,
	}
	for i, c := range commands() {
		if constants[i] != c.number {
			t.Errorf("%s is %d, want %d", c.name, constants[i], c.number)
		}
	}
}

// P17.1 and P17.2: bytes and numbers that are no command.
func TestNoCommand(t *testing.T) {
	for b := range 256 {
		if isCommand(byte(b)) {
			continue
		}
		if got, ok := write.Command(byte(b)); got != 0 || ok {
			t.Errorf("Command(%x) is %d, %v", b, got, ok)
		}
		s := filled(t, 3, true)
		s.Place(7)
		before := s.Copy()
		for _, rest := range []string{"", "\xff", "\xc7\x11\x40\x40\xc1", "\xc3\x11"} {
			checkRun(t, s, string([]byte{byte(b)})+rest, write.Result{}, api.ErrCommand)
		}
		checkScreen(t, "no command", s, before)
	}
	for _, n := range []int{-1, 9, 10, -9, 0xf1, 256, 257, math.MaxInt, math.MinInt} {
		if write.Byte(n) != 0 || write.Name(n) != "" || write.Reads(n) || write.Erases(n) {
			t.Errorf("%d: %x, %q, %v, %v", n, write.Byte(n), write.Name(n), write.Reads(n), write.Erases(n))
		}
	}
}

// checkRun runs a record and compares what comes of it.
func checkRun(t *testing.T, s *space.Space, record string, want write.Result, e api.Errno) {
	t.Helper()
	got, errno := write.Run(s, []byte(record))
	if errno != e {
		t.Fatalf("%x: error %d, want %d", record, errno, e)
	}
	if !bytes.Equal(got.Fields, want.Fields) {
		t.Fatalf("%x: fields %x, want %x", record, got.Fields, want.Fields)
	}
	got.Fields, want.Fields = nil, nil
	if got.Command != want.Command || got.Pieces != want.Pieces || got.Restore != want.Restore || got.Alarm != want.Alarm || got.Reset != want.Reset {
		t.Fatalf("%x: %+v, want %+v", record, got, want)
	}
}

// P17.2: an empty record has no effect, nor has Nothing, whatever follows.
func TestNothing(t *testing.T) {
	s := filled(t, 5, true)
	s.Set(4, field(0x01))
	s.Place(9)
	before := s.Copy()
	checkRun(t, s, "", write.Result{}, api.OK)
	if r, e := write.Run(s, nil); r.Command != 0 || r.Pieces != 0 || r.Restore || r.Alarm || r.Reset || r.Fields != nil || e != api.OK {
		t.Errorf("nil: %+v, %d", r, e)
	}
	for _, rest := range []string{"", "\xc7", "\xff\x11\x40\x40\xc1", "\x47\x11", "\xf5\xc3"} {
		checkRun(t, s, "\x03"+rest, write.Result{}, api.OK)
	}
	checkScreen(t, "nothing", s, before)
}

// P17.2: the reads are asked for, and nothing else; further bytes are ignored.
func TestReads(t *testing.T) {
	s := filled(t, 5, false)
	s.Set(4, field(0x01))
	s.Place(9)
	before := s.Copy()
	for _, c := range commands() {
		if !c.reads {
			continue
		}
		for _, b := range c.bytes {
			for _, rest := range []string{"", "\xc7", "\xff\x11\x40\x40\xc1", "\x47\x11", "\x99"} {
				checkRun(t, s, string([]byte{b})+rest, write.Result{Command: c.number}, api.OK)
			}
		}
	}
	checkScreen(t, "reads", s, before)
}

// P17.2: structured fields are the bytes after the command, whatever they are.
func TestStructured(t *testing.T) {
	s := filled(t, 5, false)
	s.Set(4, field(0x01))
	before := s.Copy()
	for _, b := range []string{"\x11", "\xf3"} {
		for _, rest := range []string{"", "\x00", "\x00\x05\x01\xff\x02", "\xc7\x11", "\xf5\xc3\x11\x40"} {
			checkRun(t, s, b+rest, write.Result{Command: 8, Fields: []byte(rest)}, api.OK)
		}
	}
	checkScreen(t, "structured fields", s, before)
}

// P17.2: Erase All Unprotected nulls what is not protected, and restores; further bytes are ignored.
func TestEraseUnprotected(t *testing.T) {
	for _, b := range []string{"\x0f", "\x6f"} {
		for _, rest := range []string{"", "\xc7", "\x40\x11\x40\x40\xc1", "\x11"} {
			cells := map[int]api.Cell{0: field(0x21), 1: char(0xc1), 5: field(0x01), 6: {Char: 0xc2, Color: 0xf3}, 8: field(0x20), 9: char(0xc3)}
			s := empty(t, cells)
			s.Place(700)
			cells[5], cells[6] = field(0x00), api.Cell{Color: 0xf3}
			want := empty(t, cells)
			want.Place(6)
			checkRun(t, s, b+rest, write.Result{Command: 4, Restore: true}, api.OK)
			checkScreen(t, "formatted", s, want)
		}
	}
	s := filled(t, 4, true)
	want := s.Copy()
	for n := range s.Size().Cells() {
		want.Put(n, 0)
	}
	s.Place(9)
	checkRun(t, s, "\x6f", write.Result{Command: 4, Restore: true}, api.OK)
	checkScreen(t, "not formatted", s, want)
}

// P17.2: each bit of the write control character, which each byte is, and none.
func TestControl(t *testing.T) {
	for _, c := range commands()[1:4] {
		for _, b := range c.bytes {
			for control := range 256 {
				want := write.Result{Command: c.number, Restore: control&2 != 0, Alarm: control&4 != 0, Reset: control&0x40 != 0}
				checkRun(t, newSpace(t, 2, false), string([]byte{b, byte(control)}), want, api.OK)
				want.Pieces = 2
				checkRun(t, newSpace(t, 2, false), string([]byte{b, byte(control)})+"\xc1\x13", want, api.OK)
			}
			checkRun(t, newSpace(t, 2, false), string([]byte{b}), write.Result{Command: c.number}, api.OK)
		}
	}
}

// P17.2: with an error the write control character is not told, but what was executed is.
func TestControlBesideError(t *testing.T) {
	for _, c := range commands()[1:4] {
		for _, b := range c.bytes {
			for pieces, orders := range []string{"", "\xc1\xc2", "\xc1\x13", "\xc1\x13\xc1", "\x13\x13\x13\x08\xc5"} {
				checkRun(t, newSpace(t, 2, false), string([]byte{b, 0xff})+orders+"\x11\x40", write.Result{Command: c.number, Pieces: pieces}, api.ErrShort)
			}
		}
	}
}

// P17.2: of Write alone the bit 01 marks all fields as not modified, also protected ones; no other bit does.
func TestUnmodify(t *testing.T) {
	for control := range 256 {
		cells := map[int]api.Cell{0: field(0x21), 5: {Attr: true, FA: 0x1d, Color: 0xf1}, 6: char(0xc1), 700: field(0x0c), 1919: field(0x01)}
		s := empty(t, cells)
		s.Place(6)
		if control&1 != 0 {
			cells[0], cells[5], cells[1919] = field(0x20), api.Cell{Attr: true, FA: 0x1c, Color: 0xf1}, field(0)
		}
		want := empty(t, cells)
		want.Place(6)
		for _, b := range []byte{0x01, 0xf1} {
			if _, e := write.Run(s, []byte{b, byte(control)}); e != api.OK {
				t.Fatal(e)
			}
			checkScreen(t, "bits "+strconv.FormatInt(int64(control), 16), s, want)
		}
	}
}

// P17.2: the fields are marked before the orders, which may modify them; an order that fails does not take that back.
func TestUnmodifyBeforeOrders(t *testing.T) {
	s := empty(t, map[int]api.Cell{0: field(0x01), 5: field(0x21)})
	checkRun(t, s, "\xf1\x41\x11"+to(9)+"\x1d\x01\x11"+to(5)+"\x2c\x01\xc0\x61", write.Result{Command: 1, Reset: true, Pieces: 4}, api.OK)
	checkScreen(t, "fields", s, empty(t, map[int]api.Cell{0: field(0), 5: field(0x21), 9: field(0x01)}))
	checkRun(t, s, "\xf1\x01\x08", write.Result{Command: 1}, api.ErrShort)
	checkScreen(t, "an error", s, empty(t, map[int]api.Cell{0: field(0), 5: field(0x20), 9: field(0)}))
	checkRun(t, s, "\xf1", write.Result{Command: 1}, api.OK)
	checkScreen(t, "no control character", s, empty(t, map[int]api.Cell{0: field(0), 5: field(0x20), 9: field(0)}))
}

// P17.2: Erase/Write and Erase/Write Alternate restore the initial contents of their size, and begin at 0.
func TestErase(t *testing.T) {
	for model := 2; model <= 5; model++ {
		for _, alternate := range []bool{false, true} {
			for _, c := range commands()[2:4] {
				for _, b := range c.bytes {
					for _, rest := range []string{"", "\x00", "\x40"} {
						s := filled(t, model, alternate)
						s.Set(3, field(0x21))
						s.Place(700)
						want := newSpace(t, model, c.number == 3)
						checkRun(t, s, string([]byte{b})+rest, write.Result{Command: c.number, Reset: rest == "\x40"}, api.OK)
						checkScreen(t, "erased", s, want)
						s.Place(700)
						want.Set(0, char(0xc1))
						checkRun(t, s, string([]byte{b})+"\x00\xc1", write.Result{Command: c.number, Pieces: 1}, api.OK)
						checkScreen(t, "erased and written", s, want)
					}
				}
			}
		}
	}
}

// P17.2: a screen that was erased stays so, also if the first order fails.
func TestEraseBeforeError(t *testing.T) {
	for _, c := range commands()[2:4] {
		s := filled(t, 5, c.number == 2)
		checkRun(t, s, string([]byte{c.bytes[1]})+"\xc7\x08\x11", write.Result{Command: c.number}, api.ErrOrder)
		checkScreen(t, "erased", s, newSpace(t, 5, c.number == 3))
	}
}

// P17.2: an address of the erased screen is one of its new size.
func TestEraseToSize(t *testing.T) {
	s := filled(t, 5, true)
	checkRun(t, s, "\xf5\x00\x11"+to(1920)+"\xc1", write.Result{Command: 2}, api.ErrAddr)
	checkScreen(t, "smaller", s, newSpace(t, 5, false))
	checkRun(t, s, "\x7e\x00\x11"+to(3563)+"\xc1", write.Result{Command: 3, Pieces: 2}, api.OK)
	want := newSpace(t, 5, true)
	want.Put(3563, 0xc1)
	checkScreen(t, "greater", s, want)
}

// P17.2: Write begins at the cursor, which stays where it is.
func TestWriteFromCursor(t *testing.T) {
	eachScreen(t, func(s *space.Space) {
		for _, n := range edges(s) {
			s.Clear(s.Alternate())
			s.Place(n)
			want := s.Copy()
			want.Put(n, 0xc1)
			want.Put(n+1, 0xc2)
			checkRun(t, s, "\xf1\x00\xc1\xc2", write.Result{Command: 1, Pieces: 1}, api.OK)
			checkScreen(t, "from the cursor", s, want)
		}
	})
}

// P17.2: a nil space is told whatever the record is.
func TestNil(t *testing.T) {
	for _, record := range []string{"", "\x03", "\xf1", "\xf1\xc7\xc1", "\xf5\xc3", "\x7e", "\x6f", "\xf2", "\xf3\x00", "\x99", "\xf1\xc3\x11", "\x01\x00\x08\x08"} {
		checkRun(t, nil, record, write.Result{}, api.ErrNone)
	}
	if _, e := write.Run(nil, nil); e != api.ErrNone {
		t.Errorf("nil: error %d", e)
	}
	for _, p := range []string{"", "\xc1", "\x11", "\x08\x08"} {
		for _, n := range []int{0, 1, -1, 1920, math.MaxInt, math.MinInt} {
			if at, pieces, e := write.Orders(nil, []byte(p), n); at != 0 || pieces != 0 || e != api.ErrNone {
				t.Errorf("%x from %d: %d, %d, %d", p, n, at, pieces, e)
			}
		}
	}
}

// The rule of memory: the record stays as it is, and the fields are new.
func TestMemory(t *testing.T) {
	spare := []byte("\xf3\x00\x05\x01\xff\x02SPARE")
	record := spare[:6]
	s := newSpace(t, 2, false)
	first, _ := write.Run(s, record)
	second, _ := write.Run(s, record)
	whole := first.Fields[:cap(first.Fields)]
	for i := range whole {
		whole[i] = 0x77
	}
	if string(spare) != "\xf3\x00\x05\x01\xff\x02SPARE" || string(second.Fields) != "\x00\x05\x01\xff\x02" {
		t.Errorf("the record is %x, the fields are %x", spare, second.Fields)
	}
	record[2] = 0x66
	if string(second.Fields) != "\x00\x05\x01\xff\x02" {
		t.Errorf("the fields are %x", second.Fields)
	}
	spare = []byte("\xf1\xc3\xc1\xc2\x11\x40\x40\x1d\x60SPARE")
	write.Run(s, spare[:9])
	write.Orders(s, spare[2:9], 5)
	if string(spare) != "\xf1\xc3\xc1\xc2\x11\x40\x40\x1d\x60SPARE" {
		t.Errorf("the record is %x", spare)
	}
}

// P17.2: the chapter's example.
func TestExample(t *testing.T) {
	s := filled(t, 2, false)
	checkRun(t, s, "\xf5\xc3\x11\x40\x40\x1d\x60\xc1", write.Result{Command: 2, Restore: true, Reset: true, Pieces: 3}, api.OK)
	checkScreen(t, "example", s, empty(t, map[int]api.Cell{0: field(0x20), 1: char(0xc1)}))
}
