package nego_test

import (
	"bytes"
	"strings"
	"testing"

	"vitrine/api"
	"vitrine/nego"
)

const typeName = "IBM-3278-2-E"

// The messages of TN3270E that the tests send.
const (
	sendDevice   = "\x08\x02"
	deviceIs     = "\x02\x04IBM-3278\x01LU9"
	deviceReject = "\x02\x06\x05\x01"
	functionsIs  = "\x03\x04\x02"
	functionsAsk = "\x03\x07\x02"
	moreIs       = "\x03\x04\x02\x03"
	moreAsk      = "\x03\x07\x03\x02"
)

const (
	idle = iota
	askedDevice
	askedFunctions
	ready
	refused
)

func newEnd(t *testing.T, device, functions string) *nego.End {
	t.Helper()
	e, err := nego.New(nego.Config{Type: typeName, Device: device, Functions: []byte(functions)})
	if err != api.OK || e == nil {
		t.Fatalf("New: %v, %d", e, err)
	}
	return e
}

func hear(t *testing.T, e *nego.End, option byte, p, want string, code api.Errno) {
	t.Helper()
	a, c := e.Hear(option, []byte(p))
	if string(a) != want || c != code {
		t.Errorf("Hear(%x, %x): %x, %d; want %x, %d", option, p, a, c, want, code)
	}
	if want == "" && a != nil {
		t.Errorf("Hear(%x, %x): an answer that is not nil", option, p)
	}
}

// view is all that an end tells of itself.
type view struct {
	state     int
	device    string
	functions string
}

func check(t *testing.T, e *nego.End, want view) {
	t.Helper()
	if got := (view{e.State(), e.Device(), string(e.Functions())}); got != want {
		t.Errorf("the end is %+v, want %+v", got, want)
	}
	if e.Ready() != (want.state == ready) {
		t.Errorf("Ready is %v in state %d", e.Ready(), want.state)
	}
	for function := range 256 {
		if e.Has(byte(function)) != (strings.IndexByte(want.functions, byte(function)) >= 0) {
			t.Errorf("Has(%d) is %v, of the functions %x", function, e.Has(byte(function)), want.functions)
		}
	}
}

// stage is a way to a state, and what the end is then.
type stage struct {
	heard []string
	view  view
}

// stages has every state, those that can be reached in several ways by each of them. The functions of the end are 0 and 2.
func stages() []stage {
	return []stage{
		{nil, view{idle, "", ""}},
		{[]string{sendDevice}, view{askedDevice, "", ""}},
		{[]string{sendDevice, deviceIs}, view{askedFunctions, "LU9", ""}},
		{[]string{sendDevice, deviceIs, moreAsk}, view{askedFunctions, "LU9", ""}},
		{[]string{sendDevice, deviceIs, functionsIs}, view{ready, "LU9", "\x02"}},
		{[]string{sendDevice, deviceIs, functionsAsk}, view{ready, "LU9", "\x02"}},
		{[]string{sendDevice, deviceIs, functionsAsk, moreAsk}, view{askedFunctions, "LU9", ""}},
		{[]string{sendDevice, deviceIs, functionsIs, sendDevice}, view{askedDevice, "", ""}},
		{[]string{sendDevice, deviceReject}, view{refused, "", ""}},
		{[]string{sendDevice, deviceIs, moreIs}, view{refused, "LU9", ""}},
		{[]string{sendDevice, deviceIs, functionsIs, sendDevice, deviceReject}, view{refused, "", ""}},
	}
}

func (s stage) reach(t *testing.T) *nego.End {
	t.Helper()
	e := newEnd(t, "LU7", "\x00\x02")
	for _, p := range s.heard {
		if _, code := e.Hear(nego.TN3270E, []byte(p)); code != api.OK {
			t.Fatalf("Hear(%x): %d", p, code)
		}
	}
	check(t, e, s.view)
	return e
}

// P10.1: every message in every state: its answer, what the end is then, or ErrState, which changes nothing.
func TestEveryMessageInEveryState(t *testing.T) {
	messages := []struct {
		p, answer string
		states    []int
		next      view
	}{
		{sendDevice, "\x02\x07" + typeName + "\x01LU7", []int{idle, askedDevice, askedFunctions, ready}, view{askedDevice, "", ""}},
		{deviceIs, "\x03\x07\x00\x02", []int{askedDevice}, view{askedFunctions, "LU9", ""}},
		{deviceReject, "", []int{askedDevice}, view{refused, "", ""}},
		{functionsIs, "", []int{askedFunctions}, view{ready, "LU9", "\x02"}},
		{moreIs, "", []int{askedFunctions}, view{refused, "LU9", ""}},
		{functionsAsk, "\x03\x04\x02", []int{askedFunctions, ready}, view{ready, "LU9", "\x02"}},
		{moreAsk, "\x03\x07\x02", []int{askedFunctions, ready}, view{askedFunctions, "LU9", ""}},
	}
	for _, s := range stages() {
		for _, m := range messages {
			e := s.reach(t)
			permitted := false
			for _, state := range m.states {
				permitted = permitted || state == s.view.state
			}
			if permitted {
				hear(t, e, nego.TN3270E, m.p, m.answer, api.OK)
				check(t, e, m.next)
				continue
			}
			hear(t, e, nego.TN3270E, m.p, "", api.ErrState)
			check(t, e, s.view)
		}
	}
}

// P10.1: TERMINAL-TYPE is answered in every state, also of a refused end, and changes nothing.
func TestTerminalType(t *testing.T) {
	for _, s := range stages() {
		e := s.reach(t)
		for range 2 {
			hear(t, e, nego.TerminalType, "\x01", "\x00"+typeName, api.OK)
			check(t, e, s.view)
		}
		for _, p := range []string{"", "\x00", "\x02", "\xff", "\x01\x01", "\x01\x00", "\x00\x01", "\x00" + typeName, "\x01" + typeName, sendDevice, deviceIs, deviceReject, functionsIs, functionsAsk} {
			hear(t, e, nego.TerminalType, p, "", api.ErrForm)
			check(t, e, s.view)
		}
	}
}

// P10.1: any other option is ErrNone, ahead of what is wrong with the bytes or the state.
func TestOtherOptions(t *testing.T) {
	if nego.TerminalType != 0x18 || nego.TN3270E != 0x28 {
		t.Error(nego.TerminalType, nego.TN3270E)
	}
	for _, s := range stages() {
		e := s.reach(t)
		for option := range 256 {
			if option == nego.TerminalType || option == nego.TN3270E {
				continue
			}
			for _, p := range []string{"", "\x01", "\xff", sendDevice, deviceIs, deviceReject, functionsIs, functionsAsk} {
				hear(t, e, byte(option), p, "", api.ErrNone)
			}
		}
		check(t, e, s.view)
	}
}

// P10.1: without the name of a device, none is asked for.
func TestNoDevice(t *testing.T) {
	e := newEnd(t, "", "\x02")
	hear(t, e, nego.TN3270E, sendDevice, "\x02\x07"+typeName, api.OK)
	hear(t, e, nego.TN3270E, "\x02\x04x\x01y", "\x03\x07\x02", api.OK)
	check(t, e, view{askedFunctions, "y", ""})
	hear(t, e, nego.TN3270E, sendDevice, "\x02\x07"+typeName, api.OK)
	check(t, e, view{askedDevice, "", ""})
}

// P10.1: what was obtained before is discarded by SEND DEVICE-TYPE, and what is obtained then takes its place.
func TestObtainedAgain(t *testing.T) {
	e := newEnd(t, "LU7", "\x00\x02\x04")
	for _, device := range []string{"LU1", "A", strings.Repeat("z", api.MaxName)} {
		for _, l := range []string{"\x04\x00", "\x02", ""} {
			hear(t, e, nego.TN3270E, sendDevice, "\x02\x07"+typeName+"\x01LU7", api.OK)
			check(t, e, view{askedDevice, "", ""})
			hear(t, e, nego.TN3270E, "\x02\x04T\x01"+device, "\x03\x07\x00\x02\x04", api.OK)
			check(t, e, view{askedFunctions, device, ""})
			hear(t, e, nego.TN3270E, "\x03\x04"+l, "", api.OK)
			check(t, e, view{ready, device, sorted(l)})
		}
	}
}

// P10.1: Reset makes the end idle from every state; it then negotiates as a new one does.
func TestReset(t *testing.T) {
	for _, s := range stages() {
		e := s.reach(t)
		for range 2 {
			e.Reset()
			check(t, e, view{})
		}
		for _, p := range []string{deviceIs, deviceReject, functionsIs, functionsAsk} {
			hear(t, e, nego.TN3270E, p, "", api.ErrState)
		}
		hear(t, e, nego.TN3270E, sendDevice, "\x02\x07"+typeName+"\x01LU7", api.OK)
		hear(t, e, nego.TN3270E, "\x02\x04T\x01LU1", "\x03\x07\x00\x02", api.OK)
		hear(t, e, nego.TN3270E, "\x03\x04\x00", "", api.OK)
		check(t, e, view{ready, "LU1", "\x00"})
		hear(t, e, nego.TerminalType, "\x01", "\x00"+typeName, api.OK)
	}
}

// P10.2, P1: a nil end. ErrNone comes ahead of all that is wrong with the arguments.
func TestNoEnd(t *testing.T) {
	var e *nego.End
	for _, option := range []byte{nego.TerminalType, nego.TN3270E, 0, 0xff} {
		for _, p := range []string{"", "\x01", "\xff", sendDevice, deviceIs, deviceReject, functionsIs, functionsAsk} {
			hear(t, e, option, p, "", api.ErrNone)
		}
		hearNil(t, e, option, api.ErrNone)
	}
	e.Reset()
	check(t, e, view{refused, "", ""})
	if e.Functions() != nil {
		t.Error("functions of no end")
	}
}

func hearNil(t *testing.T, e *nego.End, option byte, want api.Errno) {
	t.Helper()
	for _, p := range [][]byte{nil, {}} {
		if a, code := e.Hear(option, p); a != nil || code != want {
			t.Errorf("Hear(%x, nothing): %x, %d", option, a, code)
		}
	}
}

// P10.1: nil and empty slices are no message, and no functions.
func TestNilAndEmpty(t *testing.T) {
	for _, s := range stages() {
		e := s.reach(t)
		hearNil(t, e, nego.TerminalType, api.ErrForm)
		hearNil(t, e, nego.TN3270E, api.ErrForm)
		hearNil(t, e, 0x19, api.ErrNone)
		check(t, e, s.view)
	}
	for _, l := range [][]byte{nil, {}} {
		e, err := nego.New(nego.Config{Type: "t", Functions: l})
		if err != api.OK {
			t.Fatal(err)
		}
		check(t, e, view{})
		hear(t, e, nego.TN3270E, sendDevice, "\x02\x07t", api.OK)
		hear(t, e, nego.TN3270E, deviceIs, "\x03\x07", api.OK)
		hear(t, e, nego.TN3270E, "\x03\x07\x02", "\x03\x07", api.OK)
		hear(t, e, nego.TN3270E, "\x03\x07", "\x03\x04", api.OK)
		check(t, e, view{ready, "LU9", ""})
	}
}

func overwrite(p []byte) {
	p = p[:cap(p)]
	for i := range p {
		p[i] = 0x99
	}
}

// The rule of memory: arguments are neither kept nor changed, and results are new.
func TestMemory(t *testing.T) {
	functions := []byte{0, 2, 3, 9, 9}
	e, err := nego.New(nego.Config{Type: typeName, Functions: functions[:3]})
	if err != api.OK || !bytes.Equal(functions, []byte{0, 2, 3, 9, 9}) {
		t.Fatal(err, functions)
	}
	overwrite(functions)
	steps := []struct{ p, answer string }{
		{sendDevice, "\x02\x07" + typeName},
		{deviceIs, "\x03\x07\x00\x02\x03"},
		{"\x03\x07\x03\x04\x00", "\x03\x07\x03\x00"},
		{"\x03\x07\x03\x00", "\x03\x04\x03\x00"},
	}
	for range 2 {
		for _, s := range steps {
			spare := append([]byte(s.p), "spare"...)
			a, code := e.Hear(nego.TN3270E, spare[:len(s.p)])
			if code != api.OK || string(a) != s.answer || string(spare) != s.p+"spare" {
				t.Errorf("Hear(%x): %x, %d, and the argument is %x", s.p, a, code, spare)
			}
			overwrite(spare)
			overwrite(a)
		}
		check(t, e, view{ready, "LU9", "\x00\x03"})
		overwrite(e.Functions())
		check(t, e, view{ready, "LU9", "\x00\x03"})
		a, _ := e.Hear(nego.TerminalType, []byte{1})
		overwrite(a)
		hear(t, e, nego.TerminalType, "\x01", "\x00"+typeName, api.OK)
	}
}

// P2: ends do not hang on each other.
func TestTwoEnds(t *testing.T) {
	a, b := newEnd(t, "LU7", "\x00\x02"), newEnd(t, "", "\x04")
	hear(t, a, nego.TN3270E, sendDevice, "\x02\x07"+typeName+"\x01LU7", api.OK)
	check(t, b, view{})
	hear(t, b, nego.TN3270E, sendDevice, "\x02\x07"+typeName, api.OK)
	hear(t, a, nego.TN3270E, deviceIs, "\x03\x07\x00\x02", api.OK)
	hear(t, b, nego.TN3270E, deviceReject, "", api.OK)
	hear(t, a, nego.TN3270E, functionsIs, "", api.OK)
	check(t, a, view{ready, "LU9", "\x02"})
	check(t, b, view{refused, "", ""})
	a.Reset()
	check(t, b, view{refused, "", ""})
}
