package session_test

import (
	"bytes"
	"slices"
	"strings"
	"testing"

	"vitrine/api"
	"vitrine/header"
	"vitrine/keys"
	"vitrine/link"
	"vitrine/session"
	"vitrine/space"
	"vitrine/term"
)

// What a host says to agree on things, and to take that back.
const (
	toBasic   = "\xff\xfd\x18\xff\xfd\x19\xff\xfb\x19\xff\xfd\x00\xff\xfb\x00"
	leave     = "\xff\xfe\x19"
	back      = "\xff\xfd\x19"
	doExt     = "\xff\xfd\x28"
	dontExt   = "\xff\xfe\x28"
	sendDev   = "\xff\xfa\x28\x08\x02\xff\xf0"
	deviceIs  = "\xff\xfa\x28\x02\x04IBM-3278\x01LU9\xff\xf0"
	funcsIs   = "\xff\xfa\x28\x03\x04\x02\xff\xf0"
	noFuncsIs = "\xff\xfa\x28\x03\x04\xff\xf0"
	toFuncs   = doExt + sendDev + deviceIs
	toExt     = toFuncs + funcsIs
	eor       = "\xff\xef"
)

// What the session of newSession answers to that.
const (
	saysBasic = "\xff\xfb\x18\xff\xfb\x19\xff\xfd\x19\xff\xfb\x00\xff\xfd\x00"
	saysExt   = "\xff\xfb\x28\xff\xfa\x28\x02\x07IBM-3278-2\x01LU7\xff\xf0\xff\xfa\x28\x03\x07\x02\xff\xf0"
)

// The modes.
const (
	plain    = 0
	basic    = 1
	extended = 2
)

// names are those of the counters, in increasing order.
var names = []string{"alarms", "keys", "reads", "records", "refused", "rejected"}

// usual is the configuration of newSession.
func usual() session.Config {
	return session.Config{Link: link.Config{Type: "IBM-3278-2", Device: "LU7", Functions: []byte{2}, Extended: true}, Model: 2, Page: 37}
}

// linkWith is a link's configuration with these functions.
func linkWith(functions []byte) link.Config {
	return link.Config{Type: "T", Functions: functions, Extended: true}
}

func newSession(t *testing.T, c session.Config) *session.Session {
	t.Helper()
	s, e := session.New(c)
	if e != api.OK || s == nil {
		t.Fatalf("New(%+v): %v, %d", c, s, e)
	}
	return s
}

// reach is a session in a mode; what it sent is removed.
func reach(t *testing.T, mode int) *session.Session {
	t.Helper()
	s := newSession(t, usual())
	said := []string{"", toBasic, toExt}[mode]
	if n := s.Bytes([]byte(said)); n != 0 {
		t.Fatalf("%x: %d events", said, n)
	}
	checkOut(t, said, s, []string{"", saysBasic, saysExt}[mode])
	checkView(t, said, s, session.View{Mode: mode, Device: []string{"", "", "LU9"}[mode], State: newState(2, 37)})
	return s
}

// newState is that of a new terminal.
func newState(model, number int) term.State {
	return term.State{Model: model, Page: number, AID: 0x60}
}

func escaped(p string) string {
	return strings.ReplaceAll(p, "\xff", "\xff\xff")
}

// wrapped is a record as it is sent, with or without a header.
func wrapped(p string) string {
	return escaped(p) + eor
}

func headed(kind, response byte, seq uint16, p string) string {
	return wrapped(string([]byte{kind, 0, response, byte(seq >> 8), byte(seq)}) + p)
}

// inMode is a record of a host in mode 1 or 2, there without a response.
func inMode(mode int, p string) string {
	if mode == extended {
		return headed(0, 0, 0, p)
	}
	return wrapped(p)
}

// fromUs is a record that the session sends in mode 1 or 2, there with its number.
func fromUs(mode int, seq uint16, p string) string {
	if mode == extended {
		return headed(0, 0, seq, p)
	}
	return wrapped(p)
}

func positive(seq uint16) string {
	return headed(2, 0, seq, "\x00")
}

func negative(seq uint16, code byte) string {
	return headed(2, 1, seq, string([]byte{code}))
}

// takes gives a session bytes, and compares the number of events and what is sent.
func takes(t *testing.T, s *session.Session, p string, events int, out string) {
	t.Helper()
	if n := s.Bytes([]byte(p)); n != events {
		t.Fatalf("%.60x: %d events, want %d", p, n, events)
	}
	checkOut(t, p, s, out)
}

// checkOut asks twice, since what was asked for is removed.
func checkOut(t *testing.T, what string, s *session.Session, want string) {
	t.Helper()
	if got := string(s.Out()); got != want {
		t.Fatalf("%.60x: %.100x is sent, want %.100x", what, got, want)
	}
	if got := s.Out(); len(got) != 0 {
		t.Fatalf("%.60x: %.60x is sent again", what, got)
	}
}

// press presses a key, and compares the error and what is sent.
func press(t *testing.T, s *session.Session, k keys.Key, want api.Errno, out string) {
	t.Helper()
	if e := s.Key(k); e != want {
		t.Fatalf("%+v: %d, want %d", k, e, want)
	}
	checkOut(t, "a key", s, out)
}

// types types a text of which nothing is sent.
func types(t *testing.T, s *session.Session, text string, accepted int, want api.Errno) {
	t.Helper()
	if n, e := s.Type(text); n != accepted || e != want {
		t.Fatalf("Type(%q): %d, %d, want %d, %d", text, n, e, accepted, want)
	}
	checkOut(t, text, s, "")
}

func checkView(t *testing.T, what string, s *session.Session, want session.View) {
	t.Helper()
	if v := s.View(); v != want {
		t.Fatalf("%.60x: the view is %.300v, want %.300v", what, v, want)
	}
}

func checkErrors(t *testing.T, what string, s *session.Session, want ...api.Errno) {
	t.Helper()
	if l := slices.Collect(s.Errors()); !slices.Equal(l, want) {
		t.Fatalf("%.60x: the errors are %d, want %d", what, l, want)
	}
}

// cells are what is on a screen, by position.
type cells map[int]api.Cell

// attribute is one with these six bits.
func attribute(bits byte) api.Cell {
	return api.Cell{Attr: true, FA: bits}
}

func char(code byte) api.Cell {
	return api.Cell{Char: code}
}

func checkScreen(t *testing.T, what string, s *session.Session, l cells, cursor int) {
	t.Helper()
	want, _ := space.New(s.View().State.Model)
	want.Clear(s.View().State.Alt)
	for n, c := range l {
		want.Set(n, c)
	}
	want.Place(cursor)
	got := s.Screen()
	if got.Same(want) {
		return
	}
	for _, n := range got.Diff(want) {
		t.Fatalf("%.60x: at %d there is %v, want %v", what, n, got.At(n), want.At(n))
	}
	t.Fatalf("%.60x: the cursor is at %d, want %d", what, got.Cursor(), want.Cursor())
}

// counts are the counters by their names, in the order of names.
func counts(s *session.Session) [6]uint64 {
	var l [6]uint64
	for i, name := range names {
		l[i] = s.Tally().Get(name)
	}
	return l
}

func checkCounts(t *testing.T, what string, s *session.Session, alarms, pressed, reads, records, refused, rejected uint64) {
	t.Helper()
	if got, want := counts(s), [6]uint64{alarms, pressed, reads, records, refused, rejected}; got != want {
		t.Fatalf("%.60x: the counters %v are %v, want %v", what, names, got, want)
	}
}

// form is a record: an empty screen with an unprotected field at 0 and the cursor behind it, and a protected one at 6.
const form = "\xf5\xc3\x11\x40\x40\x1d\x40\x13\x11\x40\xc6\x1d\x60"

// formed is a session that has the form, in mode 1 or 2.
func formed(t *testing.T, mode int) *session.Session {
	t.Helper()
	s := reach(t, mode)
	takes(t, s, inMode(mode, form), 1, "")
	checkScreen(t, form, s, cells{0: attribute(0), 6: attribute(0x20)}, 1)
	checkErrors(t, form, s, api.OK)
	checkCounts(t, form, s, 0, 0, 0, 1, 0, 0)
	return s
}

// same compares all that can be asked of two sessions but what they send.
func same(a, b *session.Session) bool {
	return a.View() == b.View() && a.Screen().Same(b.Screen()) && counts(a) == counts(b) && slices.Equal(slices.Collect(a.Errors()), slices.Collect(b.Errors())) &&
		slices.Equal(options(a), options(b)) && a.Page().Number() == b.Page().Number()
}

// options are the states of all options, on both sides.
func options(s *session.Session) []int {
	var l []int
	for side := range 2 {
		for code := range 256 {
			l = append(l, s.Options().State(side, byte(code)))
		}
	}
	return l
}

// overwrite fills a slice and its spare capacity.
func overwrite(p []byte) {
	p = p[:cap(p)]
	for i := range p {
		p[i] = 0x99
	}
}

// spareBytes are what spare leaves in the capacity behind.
const spareBytes = "\xff\xef\xff\xfd\x18"

func spare(s string) []byte {
	return append([]byte(s), spareBytes...)[:len(s)]
}

func untouched(p []byte, s string) bool {
	return string(p) == s && string(p[:cap(p)][:len(s)+len(spareBytes)]) == s+spareBytes
}

// The helpers themselves: headers as layer 9 writes them.
func TestHelpers(t *testing.T) {
	h, _ := header.Header{Type: 5, Response: 2, Seq: 0x1ff}.Bytes()
	if headed(5, 2, 0x1ff, "\xffa") != escaped(string(h)+"\xffa")+eor {
		t.Error("headed")
	}
	n, _ := header.Negative(7, 2)
	if positive(7) != wrapped(string(header.Positive(7))) || negative(7, 2) != wrapped(string(n)) || !bytes.Equal(header.Positive(7), []byte{2, 0, 0, 0, 7, 0}) {
		t.Error("responses")
	}
}
