package link_test

import (
	"bytes"
	"slices"
	"strings"
	"testing"

	"vitrine/api"
	"vitrine/header"
	"vitrine/link"
	"vitrine/option"
)

// What a host says to agree on things.
const (
	doType    = "\xff\xfd\x18"
	dontType  = "\xff\xfe\x18"
	doEOR     = "\xff\xfd\x19"
	dontEOR   = "\xff\xfe\x19"
	willEOR   = "\xff\xfb\x19"
	wontEOR   = "\xff\xfc\x19"
	doBin     = "\xff\xfd\x00"
	dontBin   = "\xff\xfe\x00"
	willBin   = "\xff\xfb\x00"
	wontBin   = "\xff\xfc\x00"
	doExt     = "\xff\xfd\x28"
	dontExt   = "\xff\xfe\x28"
	sendType  = "\xff\xfa\x18\x01\xff\xf0"
	toBasic   = doType + doEOR + willEOR + doBin + willBin
	sendDev   = "\xff\xfa\x28\x08\x02\xff\xf0"
	deviceIs  = "\xff\xfa\x28\x02\x04IBM-3278\x01LU9\xff\xf0"
	rejectDev = "\xff\xfa\x28\x02\x06\x05\x01\xff\xf0"
	funcsIs   = "\xff\xfa\x28\x03\x04\x02\xff\xf0"
	noFuncsIs = "\xff\xfa\x28\x03\x04\xff\xf0"
	badFuncs  = "\xff\xfa\x28\x03\x04\x04\xff\xf0"
	toFuncs   = doExt + sendDev + deviceIs
	toExt     = toFuncs + funcsIs
	eor       = "\xff\xef"
)

// What the link of newLink answers to that.
const (
	isType   = "\xff\xfa\x18\x00IBM-3279\xff\xf0"
	askDev   = "\xff\xfa\x28\x02\x07IBM-3279\x01LU7\xff\xf0"
	askFuncs = "\xff\xfa\x28\x03\x07\x00\x02\xff\xf0"
	willExt  = "\xff\xfb\x28"
	wontExt  = "\xff\xfc\x28"
)

// The TN3270E states of the end.
const (
	idle           = 0
	askedDevice    = 1
	askedFunctions = 2
	ready          = 3
	refused        = 4
)

func newLink(t *testing.T, permitted bool) *link.Link {
	t.Helper()
	l, err := link.New(link.Config{Type: "IBM-3279", Device: "LU7", Functions: []byte{0, 2}, Extended: permitted})
	if err != api.OK || l == nil {
		t.Fatalf("New: %v, %d", l, err)
	}
	return l
}

// take gives a link bytes and collects the events.
func take(l *link.Link, p string) []link.Event {
	var events []link.Event
	for e := range l.Take([]byte(p)) {
		events = append(events, e)
	}
	return events
}

// reach is a new link, TN3270E permitted, that has taken p. What it sent is removed.
func reach(t *testing.T, p string) *link.Link {
	t.Helper()
	l := newLink(t, true)
	if events := take(l, p); len(events) != 0 {
		t.Fatalf("%x: %v", p, events)
	}
	l.Out()
	return l
}

func same(a, b link.Event) bool {
	return a.Kind == b.Kind && bytes.Equal(a.Data, b.Data) && a.Header == b.Header && a.Headed == b.Headed
}

func checkTake(t *testing.T, l *link.Link, p string, want ...link.Event) {
	t.Helper()
	if got := take(l, p); !slices.EqualFunc(got, want, same) {
		t.Errorf("Take(%x): %v, want %v", p, got, want)
	}
}

func checkOut(t *testing.T, l *link.Link, want string) {
	t.Helper()
	if got := l.Out(); string(got) != want {
		t.Errorf("Out: %x, want %x", got, want)
	}
	if got := l.Out(); len(got) != 0 {
		t.Errorf("Out again: %x", got)
	}
}

// check holds the modes and the end's state against what is wanted.
func check(t *testing.T, l *link.Link, mode, state int, waiting bool) {
	t.Helper()
	if l.Mode() != mode || l.End().State() != state || l.Waiting() != waiting {
		t.Errorf("mode %d, the end's state %d, waiting %v; want %d, %d, %v", l.Mode(), l.End().State(), l.Waiting(), mode, state, waiting)
	}
}

func text(s string) link.Event {
	return link.Event{Kind: link.Text, Data: []byte(s)}
}

func screen(s string) link.Event {
	return link.Event{Kind: link.Screen, Data: []byte(s)}
}

func headed(kind int, h header.Header, s string) link.Event {
	return link.Event{Kind: kind, Data: []byte(s), Header: h, Headed: true}
}

// P11.1: New returns a link, or the errors of layer 10 in their order, also if TN3270E is not permitted.
func TestNew(t *testing.T) {
	long := strings.Repeat("n", api.MaxName+1)
	cases := []struct {
		kind, device, functions string
		want                    api.Errno
	}{
		{"T", "", "", api.OK},
		{long[1:], long[1:], "\x00\x01\x02\x03\x04", api.OK},
		{"!", "~", "\x03", api.OK},
		{"", "", "", api.ErrForm},
		{"", "LU", "\x02", api.ErrForm},
		{long, "", "", api.ErrForm},
		{"T", long, "", api.ErrForm},
		{"a b", "", "", api.ErrForm},
		{"T", "\x7f", "", api.ErrForm},
		{"T", "", "\x05", api.ErrArg},
		{"T", "", "\x02\x02", api.ErrArg},
		{"T", "", "\x02\x00", api.ErrArg},
		{"T", " ", "\x02\x00", api.ErrForm},
		{"", "", "\x05", api.ErrForm},
	}
	for _, c := range cases {
		for _, permitted := range []bool{false, true} {
			l, err := link.New(link.Config{Type: c.kind, Device: c.device, Functions: []byte(c.functions), Extended: permitted})
			if err != c.want || (l == nil) != (err != api.OK) {
				t.Errorf("New(%q, %q, %x, %v): %v, %d; want %d", c.kind, c.device, c.functions, permitted, l, err, c.want)
			}
			if l == nil {
				continue
			}
			check(t, l, 0, idle, false)
			checkOut(t, l, "")
		}
	}
}

// isOurs tells whether an option is agreed to on our side.
func isOurs(code byte, permitted bool) bool {
	return code == 0 || code == 0x18 || code == 0x19 || code == 0x28 && permitted
}

// P11.1, Terms: which options are agreed to, on which side, and which are not.
func TestAgreed(t *testing.T) {
	for _, permitted := range []bool{false, true} {
		for code := range 256 {
			o := byte(code)
			l := newLink(t, permitted)
			checkTake(t, l, string([]byte{0xff, 0xfd, o}))
			answer := byte(0xfc)
			if isOurs(o, permitted) {
				answer = 0xfb
			}
			checkOut(t, l, string([]byte{0xff, answer, o}))
			checkTake(t, l, string([]byte{0xff, 0xfb, o}))
			answer = 0xfe
			if o == 0 || o == 0x19 {
				answer = 0xfd
			}
			checkOut(t, l, string([]byte{0xff, answer, o}))
			if l.Options().On(option.Us, o) != isOurs(o, permitted) || l.Options().On(option.Him, o) != (o == 0 || o == 0x19) {
				t.Errorf("option %x, permitted %v: %v, %v", o, permitted, l.Options().On(option.Us, o), l.Options().On(option.Him, o))
			}
		}
	}
}

// P11.2, Terms: the mode, of every choice of the options that matter, and every state of the end.
func TestMode(t *testing.T) {
	options := []string{doType, doEOR, willEOR, doBin, willBin, "\xff\xfb\x18", "\xff\xfb\x28"}
	const needed = 1<<5 - 1
	ends := []struct {
		p     string
		state int
	}{
		{"", idle}, {doExt, idle}, {doExt + sendDev, askedDevice}, {toFuncs, askedFunctions}, {toExt, ready}, {toExt + sendDev, askedDevice},
		{toFuncs + badFuncs, refused}, {doExt + sendDev + rejectDev, refused}, {toExt + dontExt, idle}, {toExt + dontExt + doExt, idle},
	}
	for choice := range 1 << len(options) {
		said := ""
		for i, p := range options {
			if choice>>i&1 == 1 {
				said += p
			}
		}
		for _, end := range ends {
			l := newLink(t, true)
			take(l, said)
			take(l, end.p)
			want := 0
			if choice&needed == needed && !l.Options().On(option.Us, 0x28) {
				want = 1
			}
			if end.state == ready {
				want = 2
			}
			check(t, l, want, end.state, false)
		}
	}
}

// P11.1: without permission, TN3270E is never agreed on and its subnegotiations have no effect.
func TestNotPermitted(t *testing.T) {
	l := newLink(t, false)
	checkTake(t, l, toExt)
	check(t, l, 0, idle, false)
	checkOut(t, l, wontExt)
	checkTake(t, l, toBasic+toExt+"a"+eor, screen("a"))
	check(t, l, 1, idle, false)
}

// P11.1: Send in mode 0 is ErrState, and nothing is sent.
func TestSendInPlainMode(t *testing.T) {
	for _, p := range []string{"", doType + doEOR + willEOR + doBin, doExt, toFuncs, toBasic + doExt, toExt + sendDev, toFuncs + badFuncs} {
		l := reach(t, p)
		for _, data := range [][]byte{nil, {}, {1}, {0xff}} {
			if code := l.Send(data); code != api.ErrState {
				t.Errorf("%x: Send(%x): %d", p, data, code)
			}
		}
		checkOut(t, l, "")
	}
}

// P11.1: Send in mode 1 sends the record itself, also an empty or a long one.
func TestSendInBasicMode(t *testing.T) {
	l := reach(t, toBasic)
	for _, p := range []string{"", "\x7d\x40\x40", "\xff", "\xff\xffa\xef", strings.Repeat("\xffa", 9000)} {
		if code := l.Send([]byte(p)); code != api.OK {
			t.Errorf("Send: %d", code)
		}
		checkOut(t, l, strings.ReplaceAll(p, "\xff", "\xff\xff")+eor)
	}
	if l.Send(nil) != api.OK || l.Send([]byte{}) != api.OK || l.Send([]byte("ab")) != api.OK {
		t.Error("Send")
	}
	checkOut(t, l, eor+eor+"ab"+eor)
}

// numbered is a record as it is sent in mode 2.
func numbered(seq int, p string) string {
	return strings.ReplaceAll("\x00\x00\x00"+string([]byte{byte(seq >> 8), byte(seq)})+p, "\xff", "\xff\xff") + eor
}

// P11.1: Send in mode 2 numbers the records, if function 2 is agreed on: from 0 to 32767, and again from 0 on.
func TestSendNumbers(t *testing.T) {
	l := reach(t, toExt)
	for i := range 32768 + 300 {
		if code := l.Send([]byte("\xffz")); code != api.OK {
			t.Fatalf("Send: %d", code)
		}
		if got, want := string(l.Out()), numbered(i%32768, "\xffz"); got != want {
			t.Fatalf("record %d: %x, want %x", i, got, want)
		}
	}
	if l.Send(nil) != api.OK || l.Send([]byte{}) != api.OK {
		t.Error("Send")
	}
	checkOut(t, l, numbered(300, "")+numbered(301, ""))
}

// P11.1: without function 2 the number is always 0; neither Respond nor a record that is not sent counts.
func TestSendWithoutNumbers(t *testing.T) {
	l := reach(t, toFuncs+noFuncsIs)
	check(t, l, 2, ready, false)
	for range 3 {
		l.Send([]byte("a"))
		checkOut(t, l, numbered(0, "a"))
	}
	checkTake(t, l, sendDev+deviceIs)
	if l.Send([]byte("b")) != api.ErrState {
		t.Error("Send in mode 0")
	}
	checkTake(t, l, funcsIs)
	l.Out()
	for i := range 3 {
		if !l.Respond(headed(link.Screen, header.Header{Response: 2, Seq: 9}, ""), api.OK) {
			t.Error("Respond")
		}
		l.Out()
		l.Send([]byte("c"))
		checkOut(t, l, numbered(i, "c"))
	}
}

// P11.1: Respond sends layer 9's answer, whatever the header and the error are.
func TestRespond(t *testing.T) {
	l := reach(t, toExt)
	for kind := range 10 {
		for response := range 4 {
			for code := api.OK; code <= api.ErrText; code++ {
				h := header.Header{Type: byte(kind), Request: 1, Response: byte(response), Seq: 0x12ff}
				answer, due := header.Answer(h, code)
				want := ""
				if due {
					want = strings.ReplaceAll(string(answer), "\xff", "\xff\xff") + eor
				}
				if got := l.Respond(headed(link.Screen, h, "a"), code); got != due {
					t.Errorf("Respond(%v, %d): %v", h, code, got)
				}
				checkOut(t, l, want)
			}
		}
	}
	for _, c := range []struct {
		response byte
		code     api.Errno
		want     string
	}{
		{2, api.OK, "\x02\x00\x00\x01\x02\x00" + eor}, {2, api.ErrCommand, "\x02\x00\x01\x01\x02\x00" + eor}, {1, api.ErrLong, "\x02\x00\x01\x01\x02\x03" + eor},
		{1, api.ErrLocked, "\x02\x00\x01\x01\x02\x01" + eor}, {1, api.OK, ""}, {0, api.ErrOrder, ""},
	} {
		h := header.Header{Response: c.response, Seq: 0x102}
		if got := l.Respond(headed(link.Other, h, ""), c.code); got != (c.want != "") {
			t.Errorf("Respond(%v, %d): %v", h, c.code, got)
		}
		checkOut(t, l, c.want)
	}
}

// P11.1: nothing is sent for an event without a header, in another mode, or if function 2 is not agreed on.
func TestNoRespond(t *testing.T) {
	h := header.Header{Response: 2, Seq: 5}
	for _, p := range []string{"", toBasic, doExt, toFuncs, toFuncs + noFuncsIs, toBasic + toFuncs + noFuncsIs, toExt + sendDev, toExt + dontExt, toExt + toBasic + dontExt, toFuncs + badFuncs} {
		l := reach(t, p)
		if l.Respond(headed(link.Screen, h, "a"), api.OK) || l.Respond(headed(link.Screen, h, "a"), api.ErrArg) {
			t.Errorf("%x: Respond", p)
		}
		checkOut(t, l, "")
	}
	l := reach(t, toExt)
	for kind := link.Screen; kind <= link.Bad; kind++ {
		if l.Respond(link.Event{Kind: kind, Header: h}, api.OK) || l.Respond(link.Event{}, api.ErrArg) {
			t.Errorf("Respond to kind %d without a header", kind)
		}
		checkOut(t, l, "")
	}
}

// P11.1, P11.2: Say sends text in every mode, escaped; Out returns all that was sent, in order.
func TestSayAndOut(t *testing.T) {
	for _, p := range []string{"", toBasic, toExt} {
		l := reach(t, p)
		for _, said := range [][]byte{nil, {}} {
			l.Say(said)
			checkOut(t, l, "")
		}
		l.Say([]byte("a\xffb\xff\xff"))
		checkOut(t, l, "a\xff\xffb\xff\xff\xff\xff")
		l.Say([]byte("login"))
		take(l, "\xff\xfd\x03")
		l.Say([]byte("\xef"))
		checkOut(t, l, "login\xff\xfc\x03\xef")
	}
}

// P11.2: End and Options return the link's own objects.
func TestOwnObjects(t *testing.T) {
	l := newLink(t, true)
	end, options := l.End(), l.Options()
	take(l, toExt)
	if end.Device() != "LU9" || string(end.Functions()) != "\x02" || !options.On(option.Us, 0x28) {
		t.Error(end.Device(), end.Functions())
	}
	if l.End() != end || l.Options() != options {
		t.Error("other objects")
	}
}

// P11.2: a nil link.
func TestNoLink(t *testing.T) {
	var l *link.Link
	h := header.Header{Response: 2}
	for _, p := range [][]byte{nil, {}, []byte("a"), []byte(toExt), []byte(toBasic + "a" + eor)} {
		for e := range l.Take(p) {
			t.Error(e)
		}
		if l.Send(p) != api.ErrNone {
			t.Error("Send")
		}
		l.Say(p)
	}
	if l.Respond(headed(link.Screen, h, ""), api.OK) || l.Respond(link.Event{}, api.ErrArg) {
		t.Error("Respond")
	}
	if len(l.Out()) != 0 || l.Mode() != 0 || l.End() != nil || l.Options() != nil || l.Waiting() {
		t.Error("something of no link")
	}
}

// The kinds of events have these numbers.
func TestKinds(t *testing.T) {
	if got := []int{link.Screen, link.Text, link.Answer, link.Other, link.Long, link.Bad}; !slices.Equal(got, []int{1, 2, 3, 4, 5, 6}) {
		t.Error(got)
	}
}
