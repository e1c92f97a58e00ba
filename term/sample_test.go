package term_test

import (
	"fmt"
	"math"
	"testing"

	"vitrine/api"
	"vitrine/keys"
	"vitrine/page"
	"vitrine/space"
	"vitrine/term"
)

// sizes are the rows and columns of the models.
var sizes = map[int][2]int{2: {24, 80}, 3: {32, 80}, 4: {43, 80}, 5: {27, 132}}

// pages are the numbers of all pages.
var pages = []int{37, 273, 297, 500, 1047, 1140}

// names are those of the counters, in increasing order.
var names = []string{"alarms", "keys", "reads", "records", "refused", "rejected"}

// wrongNumbers are no models and no pages; the lowest bytes of some would be.
var wrongNumbers = []int{math.MinInt, math.MinInt + 2, -254, -37, -5, -2, -1, 0, 1, 6, 36, 38, 255, 258, 261, 1<<16 + 37, 1<<32 + 2, 1<<32 + 37, math.MaxInt}

// usual is the state of a new terminal.
func usual(model, number int) term.State {
	return term.State{Model: model, Page: number, AID: 0x60}
}

func newTerm(t *testing.T, model, number int) *term.Term {
	t.Helper()
	x, e := term.New(model, number)
	if e != api.OK {
		t.Fatal(e)
	}
	return x
}

func newPage(t *testing.T, number int) *page.Page {
	t.Helper()
	p, e := page.New(number)
	if e != api.OK {
		t.Fatal(e)
	}
	return p
}

// cells are what is on a screen, by position.
type cells map[int]api.Cell

// field is an attribute with these six bits.
func field(bits byte) api.Cell {
	return api.Cell{Attr: true, FA: bits}
}

// char is a character without display attributes.
func char(code byte) api.Cell {
	return api.Cell{Char: code}
}

func newScreen(t *testing.T, model int, alternate bool, l cells, cursor int) *space.Space {
	t.Helper()
	s, e := space.New(model)
	if e != api.OK {
		t.Fatal(e)
	}
	s.Clear(alternate)
	for n, c := range l {
		s.Set(n, c)
	}
	s.Place(cursor)
	return s
}

// hostSends takes a record, and compares what is sent and the error.
func hostSends(t *testing.T, x *term.Term, record string, want api.Errno, sent ...string) {
	t.Helper()
	l, e := x.Host([]byte(record))
	if e != want || len(l) != len(sent) {
		t.Fatalf("%.60x: %d, and %d data are sent: %.60x, want %d and %d data", record, e, len(l), l, want, len(sent))
	}
	for i, p := range l {
		if string(p) != sent[i] {
			t.Fatalf("%.60x: the data %d are %.80x, want %.80x", record, i, p, sent[i])
		}
	}
}

// press presses a key, and compares what is sent and the error.
func press(t *testing.T, x *term.Term, k keys.Key, sent string, want api.Errno) {
	t.Helper()
	p, e := x.Key(k)
	if string(p) != sent || (p == nil) != (sent == "") || e != want {
		t.Fatalf("%+v: %.60x, %d, want %.60x, %d", k, p, e, sent, want)
	}
}

// types types a text, and compares how much of it is accepted.
func types(t *testing.T, x *term.Term, text string, accepted int, want api.Errno) {
	t.Helper()
	if n, e := x.Type(text); n != accepted || e != want {
		t.Fatalf("Type(%q): %d, %d, want %d, %d", text, n, e, accepted, want)
	}
}

func checkState(t *testing.T, what string, x *term.Term, want term.State) {
	t.Helper()
	if s := x.State(); s != want {
		t.Fatalf("%q: the state is %+v, want %+v", what, s, want)
	}
}

func checkScreen(t *testing.T, what string, x *term.Term, want *space.Space) {
	t.Helper()
	s := x.Screen()
	if s.Same(want) {
		return
	}
	for _, n := range s.Diff(want) {
		t.Fatalf("%q: at %d there is %v, want %v (%v, %v)", what, n, s.At(n), want.At(n), s.Size(), want.Size())
	}
	t.Fatalf("%q: the cursor is at %d, want %d (%v, %v)", what, s.Cursor(), want.Cursor(), s.Size(), want.Size())
}

// counts are the counters by their names, in the order of names.
func counts(x *term.Term) [6]uint64 {
	var l [6]uint64
	for i, name := range names {
		l[i] = x.Tally().Get(name)
	}
	return l
}

// checkCounts asks for all counters, so that one that is counted by mistake fails, too.
func checkCounts(t *testing.T, what string, x *term.Term, alarms, pressed, reads, records, refused, rejected uint64) {
	t.Helper()
	if got, want := counts(x), [6]uint64{alarms, pressed, reads, records, refused, rejected}; got != want {
		t.Fatalf("%q: the counters %v are %v, want %v", what, names, got, want)
	}
}

// The structured fields that the tests send.
const (
	queryField  = "\x00\x05\x01\xff\x02"
	eraseField  = "\x00\x04\x03\x00"
	largeField  = "\x00\x04\x03\x80"
	createField = "\x00\x06\x0c\x00\x12\x34"
	destroyed   = "\x00\x04\x0d\x00"
	activated   = "\x00\x04\x0e\x00"
)

func modeField(mode byte) string {
	return string([]byte{0, 5, 9, 0, mode})
}

func readField(command byte) string {
	return string([]byte{0, 5, 1, 0, command})
}

// outbound is a field with a record.
func outbound(record string) string {
	n := len(record) + 4
	return string([]byte{byte(n / 256), byte(n % 256), 0x40, 0}) + record
}

// form is a record for the alternate size: an unprotected field at 0 with A, B and the cursor behind them, and a protected one at 8 with a red C.
const form = "\x7e\x40\x11\x40\x40\x1d\x40\xc1\xc2\x13\x11\x40\xc8\x1d\x60\x28\x42\xf2\xc3"

// formCells are what it writes, with c as the cell at 3 and this attribute at 0.
func formCells(bits byte, c api.Cell) cells {
	return cells{0: field(bits), 1: char(0xc1), 2: char(0xc2), 3: c, 8: field(0x20), 9: {Char: 0xc3, Color: 0xf2}}
}

// busy makes a terminal that has the form in the alternate size and the reply mode 2, with x typed behind A and B, and that waits for the host after PF3. Its counters are 0.
func busy(t *testing.T, model int) *term.Term {
	t.Helper()
	x := newTerm(t, model, 37)
	hostSends(t, x, form, api.OK)
	hostSends(t, x, "\xf3"+modeField(2), api.OK)
	types(t, x, "x", 1, api.OK)
	press(t, x, keys.Key{Kind: keys.PF, N: 3}, "\xf3\x40\xc4\x11\x40\xc1\xc1\xc2\xa7", api.OK)
	x.Tally().Reset()
	return x
}

func busyState(model int) term.State {
	return term.State{Model: model, Page: 37, Alt: true, Cursor: 4, Lock: 1, AID: 0xf3, Mode: 2}
}

func busyScreen(t *testing.T, model int) *space.Space {
	t.Helper()
	return newScreen(t, model, true, formCells(0x01, char(0xa7)), 4)
}

// checkBusy asks that nothing has changed since busy.
func checkBusy(t *testing.T, what string, x *term.Term) {
	t.Helper()
	model := x.State().Model
	checkState(t, what, x, busyState(model))
	checkScreen(t, what, x, busyScreen(t, model))
}

// The helper itself: what busy says of the terminal.
func TestBusy(t *testing.T) {
	for model := range sizes {
		x := busy(t, model)
		checkBusy(t, fmt.Sprint("model ", model), x)
		checkCounts(t, "busy", x, 0, 0, 0, 0, 0, 0)
	}
}
