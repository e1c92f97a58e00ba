package term_test

import (
	"fmt"
	"strings"
	"testing"

	"vitrine/api"
	"vitrine/keys"
	"vitrine/read"
	"vitrine/space"
	"vitrine/term"
)

// The two bytes of each command, in the order of their numbers.
var commands = []string{"\x03", "\x01\xf1", "\x05\xf5", "\x0d\x7e", "\x0f\x6f", "\x02\xf2", "\x06\xf6", "\x0e\x6e", "\x11\xf3"}

// commandOf returns the command of a byte, or -1 if there is none.
func commandOf(b byte) int {
	for command, l := range commands {
		if strings.IndexByte(l, b) >= 0 {
			return command
		}
	}
	return -1
}

// controlled is the busy terminal's state after a write control character.
func controlled(s term.State, control byte) term.State {
	if control&0x40 != 0 {
		s.Mode = 0
	}
	if control&0x02 != 0 {
		s.Lock, s.AID = 0, 0x60
	}
	return s
}

// readBusy is what the busy terminal sends for a read.
func readBusy(t *testing.T, model, command int) []string {
	t.Helper()
	p, e := read.For(busyScreen(t, model), command, 0xf3, 2)
	if e != api.OK {
		t.Fatal(e)
	}
	return []string{string(p)}
}

// expectation is what a record comes to.
type expectation struct {
	state  term.State
	screen *space.Space
	sent   []string
	alarms uint64
	e      api.Errno
}

// wantBusy is what a record of one command with a control character comes to on the busy terminal.
func wantBusy(t *testing.T, model, command int, control byte) expectation {
	t.Helper()
	want := expectation{state: busyState(model), screen: busyScreen(t, model)}
	alarms := uint64(control >> 2 & 1)
	switch command {
	case 0:
	case 1:
		want.state, want.alarms = controlled(want.state, control), alarms
		want.screen.Set(0, field(^control&1))
	case 2, 3:
		want.state, want.alarms = controlled(want.state, control), alarms
		want.state.Alt, want.state.Cursor = command == 3, 0
		want.screen.Clear(command == 3)
	case 4:
		want.state.Lock, want.state.AID, want.state.Cursor = 0, 0x60, 1
		want.screen = newScreen(t, model, true, cells{0: field(0), 8: field(0x20), 9: {Char: 0xc3, Color: 0xf2}}, 1)
	case 5, 6, 7:
		want.sent = readBusy(t, model, command)
	case 8:
		want.e = api.ErrShort // the control character alone is no field
	default:
		want.e = api.ErrCommand
	}
	return want
}

func checkRecord(t *testing.T, x *term.Term, record string, want expectation) {
	t.Helper()
	what := fmt.Sprintf("the record %x", record)
	hostSends(t, x, record, want.e, want.sent...)
	checkState(t, what, x, want.state)
	checkScreen(t, what, x, want.screen)
	rejected := uint64(0)
	if want.e != api.OK {
		rejected = 1
	}
	checkCounts(t, what, x, want.alarms, 0, uint64(len(want.sent)), 1, 0, rejected)
}

// P23.1 and Terms: every byte as a command, and each command with every write control character.
func TestCommands(t *testing.T) {
	for _, model := range []int{2, 5} {
		x := busy(t, model)
		for b := range 256 {
			command := commandOf(byte(b))
			for control := range 256 {
				if command < 0 && control&^0x47 != 0 {
					continue
				}
				checkRecord(t, x.Copy(), string([]byte{byte(b), byte(control)}), wantBusy(t, model, command, byte(control)))
			}
		}
	}
}

// P23.1: each command alone; a write control character that is not there is 0.
func TestCommandsAlone(t *testing.T) {
	for model := range sizes {
		x := busy(t, model)
		for b := range 256 {
			command := commandOf(byte(b))
			want := wantBusy(t, model, command, 0)
			if command == 8 {
				want.e = api.OK
			}
			checkRecord(t, x.Copy(), string([]byte{byte(b)}), want)
		}
	}
}

// P23.1: bytes behind the commands that take none, and fields that are empty.
func TestIgnoredBytes(t *testing.T) {
	x := busy(t, 5)
	for _, b := range []byte("\x03\x0f\x6f\x02\xf2\x06\xf6\x0e\x6e") {
		checkRecord(t, x.Copy(), string([]byte{b})+"\xc7\x11\xff\x99", wantBusy(t, 5, commandOf(b), 0))
	}
}

// P23.1: empty and nil records are records, which do nothing.
func TestEmptyRecords(t *testing.T) {
	x := busy(t, 4)
	for i, record := range [][]byte{nil, {}, make([]byte, 0, 8)} {
		if l, e := x.Host(record); len(l) != 0 || e != api.OK {
			t.Errorf("Host of an empty record: %x, %d", l, e)
		}
		checkBusy(t, "an empty record", x)
		checkCounts(t, "an empty record", x, 0, 0, 0, uint64(i+1), 0, 0)
	}
}

// Terms: a record that is executed, with orders.
func TestOrders(t *testing.T) {
	x := busy(t, 5)
	// The address of the character is that of the cursor, 4; SA holds for this record alone.
	hostSends(t, x, "\xf1\x40\xc4\x28\x41\xf4\x08\xc5\x11\xc1\x50\x13\xc6", api.OK)
	l := formCells(0x01, char(0xa7))
	l[4], l[5], l[80] = char(0xc4), api.Cell{Char: 0xc5, High: 0xf4, Set: 0xf1}, api.Cell{Char: 0xc6, High: 0xf4}
	checkScreen(t, "orders", x, newScreen(t, 5, true, l, 80))
	hostSends(t, x, "\xf1\x40\xc7", api.OK)
	l[80] = char(0xc7)
	checkScreen(t, "another record", x, newScreen(t, 5, true, l, 80))
}

// Terms: a record that fails. What was executed remains; nothing is reset, restored or sounded.
func TestRejectedRecords(t *testing.T) {
	changed := formCells(0x00, char(0xa7))
	changed[4] = char(0xd1)
	unchanged := formCells(0x00, char(0xa7))
	far := cells{81: char(0xd1)}
	for _, c := range []struct {
		record string
		e      api.Errno
		cells  cells
		alt    bool
		cursor int
	}{
		{"\x99", api.ErrCommand, formCells(0x01, char(0xa7)), true, 4},
		{"\x99\xc7\xd1", api.ErrCommand, formCells(0x01, char(0xa7)), true, 4},
		// At once, in the middle, and at the end.
		{"\xf1\xc7\x11\x40", api.ErrShort, unchanged, true, 4},
		{"\xf1\xc7\x11\x7f\x7f\xd1", api.ErrAddr, unchanged, true, 4},
		{"\xf1\xc7\xd1\x11\x7f\x7f\xd2", api.ErrAddr, changed, true, 4},
		{"\xf1\xc7\xd1\x28\x41\xf3\xd2", api.ErrOrder, changed, true, 4},
		{"\x01\xc7\xd1\x2c\x01\x41\xf1\xd2", api.ErrOrder, changed, true, 4},
		{"\xf1\xc7\xd1\x1d", api.ErrShort, changed, true, 4},
		{"\xf5\xc7\x08\x11", api.ErrOrder, nil, false, 0},
		{"\xf5\xc7\x11\xc1\xd1\xd1\x13\x11\x80\x00", api.ErrAddr, far, false, 82},
		{"\x05\xc7\x11\xc1\xd1\xd1\x13\x3c\x40\x40\x05", api.ErrOrder, far, false, 82},
		{"\x7e\xc7\x11\xc1\xd1\xd1\x13\x11\x7f\x7f", api.ErrAddr, far, true, 82},
		{"\x0d\xc7\x29\x01", api.ErrShort, nil, true, 0},
	} {
		x := busy(t, 5)
		want := expectation{state: busyState(5), screen: newScreen(t, 5, c.alt, c.cells, c.cursor), e: c.e}
		want.state.Alt, want.state.Cursor = c.alt, c.cursor
		checkRecord(t, x, c.record, want)
	}
}

// Terms: each bit of the write control character by itself, and what does not free the keyboard.
func TestControl(t *testing.T) {
	x := busy(t, 2)
	hostSends(t, x, "\xf1\x04", api.OK)
	hostSends(t, x, "\xf1\x04", api.OK)
	checkCounts(t, "alarms", x, 2, 0, 0, 2, 0, 0)
	checkBusy(t, "alarms", x)
	hostSends(t, x, "\xf1\x40", api.OK)
	want := busyState(2)
	want.Mode = 0
	checkState(t, "reset", x, want)
	hostSends(t, x, "\xf1\x01", api.OK)
	hostSends(t, x, "\xf1\xb8", api.OK)
	checkState(t, "unmodify", x, want)
	checkScreen(t, "unmodify", x, newScreen(t, 2, true, formCells(0x00, char(0xa7)), 4))
	hostSends(t, x, "\xf1\x02", api.OK)
	want.Lock, want.AID = 0, 0x60
	checkState(t, "restore", x, want)
	checkCounts(t, "all", x, 2, 0, 0, 6, 0, 0)
}

// Terms: restoring ends every lock, and leaves the insert mode as it is.
func TestRestore(t *testing.T) {
	for _, record := range []string{"\xf1\x02", "\x01\xc3", "\xf5\x02", "\x7e\x02", "\x6f", "\x0f"} {
		x := newTerm(t, 2, 37)
		hostSends(t, x, "\xf5\x40\x1d\x60\x13", api.OK)
		press(t, x, keys.Key{Kind: keys.Insert}, "", api.OK)
		types(t, x, "A", 0, api.ErrProtect)
		want := usual(2, 37)
		want.Cursor, want.Lock, want.Inserts = 1, 2, true
		checkState(t, "protected", x, want)
		hostSends(t, x, record, api.OK)
		if s := x.State(); s.Lock != 0 || !s.Inserts || s.AID != 0x60 {
			t.Errorf("after %x the state is %+v", record, s)
		}
	}
}

// Terms: reads are sent for the keyboard's AID and the reply mode, and change nothing.
func TestReads(t *testing.T) {
	ready := newTerm(t, 3, 37)
	// A field with a red A, a null, a graphic escape and an order's byte.
	hostSends(t, ready, "\xf5\x40\x11\x40\xc4\x29\x02\xc0\x41\x42\xf4\x13\x28\x42\xf2\xc1\x00\x28\x00\x00\x08\xc5", api.OK)
	bodies := []string{"\xc1\x08\xc5", "\xc1\x08\xc5", "\x28\x42\xf2\xc1\x28\x42\x00\x28\x43\xf1\xc5"}
	for mode, body := range bodies {
		for _, k := range []struct {
			key   keys.Key
			aid   string
			short bool
		}{
			{keys.Key{Kind: keys.Reset}, "\x60", false},
			{keys.Key{Kind: keys.Enter}, "\x7d", false},
			{keys.Key{Kind: keys.PF, N: 24}, "\x4c", false},
			{keys.Key{Kind: keys.PA, N: 1}, "\x6c", true},
			{keys.Key{Kind: keys.PA, N: 3}, "\x6b", true},
		} {
			x := ready.Copy()
			hostSends(t, x, "\xf3"+modeField(byte(mode)), api.OK)
			x.Key(k.key)
			x.Tally().Reset()
			s := x.State()
			all := k.aid + "\x40\xc5\x11\x40\xc5" + body
			short := all
			if k.short {
				short = k.aid
			}
			buffer, _ := read.Buffer(x.Screen(), k.aid[0], mode)
			for _, c := range []struct{ commands, want string }{{"\x02\xf2", string(buffer)}, {"\x06\xf6", short}, {"\x0e\x6e", all}} {
				for _, b := range []byte(c.commands) {
					hostSends(t, x, string([]byte{b}), api.OK, c.want)
				}
				hostSends(t, x, "\xf3"+readField(c.commands[1]), api.OK, c.want)
			}
			checkState(t, "reads", x, s)
			checkCounts(t, "reads", x, 0, 0, 9, 9, 0, 0)
		}
	}
}

// Terms: a read is of the screen as it is when the record comes.
func TestReadsOfNow(t *testing.T) {
	x := newTerm(t, 2, 37)
	hostSends(t, x, "\xf6", api.OK, "\x60\x40\x40")
	types(t, x, "A", 1, api.OK)
	hostSends(t, x, "\xf6", api.OK, "\x60\x40\xc1\xc1")
	hostSends(t, x, "\xf2", api.OK, "\x60\x40\xc1\xc1"+strings.Repeat("\x00", 1919))
	hostSends(t, x, "\xf5", api.OK)
	hostSends(t, x, "\x6e", api.OK, "\x60\x40\x40")
}
