package nego_test

import (
	"math/rand"
	"slices"
	"strings"
	"testing"

	"vitrine/api"
	"vitrine/nego"
)

// isMessage tells, in another way than the program does, whether bytes are a message of TN3270E.
func isMessage(p string) bool {
	if l, ok := strings.CutPrefix(p, "\x03\x04"); ok {
		return isList(l)
	}
	if l, ok := strings.CutPrefix(p, "\x03\x07"); ok {
		return isList(l)
	}
	if l, ok := strings.CutPrefix(p, "\x02\x04"); ok {
		names := strings.Split(l, "\x01")
		return len(names) == 2 && isName(names[0]) && isName(names[1])
	}
	return p == sendDevice || len(p) == 4 && strings.HasPrefix(p, "\x02\x06\x05")
}

func isName(s string) bool {
	return s != "" && len(s) <= 40 && strings.IndexFunc(s, func(r rune) bool { return r <= ' ' || r >= 0x7f }) < 0
}

func isList(l string) bool {
	b := []byte(l)
	slices.Sort(b)
	return len(slices.Compact(b)) == len(l)
}

func sorted(l string) string {
	b := []byte(l)
	slices.Sort(b)
	return string(b)
}

// hearOdd lets every state hear bytes: ErrForm, which comes ahead of ErrState and changes nothing, if they are no message.
func hearOdd(t *testing.T, p string) {
	t.Helper()
	for _, s := range stages() {
		e := s.reach(t)
		if !isMessage(p) {
			hear(t, e, nego.TN3270E, p, "", api.ErrForm)
			check(t, e, s.view)
			continue
		}
		if _, code := e.Hear(nego.TN3270E, []byte(p)); code != api.OK && code != api.ErrState {
			t.Errorf("Hear(%x) in state %d: %d", p, s.view.state, code)
		}
	}
}

// P10.1: bytes that are no message: too few, too many, other words, names that are none, functions twice.
func TestNoMessage(t *testing.T) {
	long := strings.Repeat("n", 41)
	odd := []string{
		"", "\x08", "\x02", "\x03", "\x08\x02\x00", "\x08\x02\x02", "\x08\x03", "\x08\x04", "\x02\x08", "\x00", "\x01", "\xff",
		"\x02\x04", "\x02\x04T", "\x02\x04\x01", "\x02\x04T\x01", "\x02\x04\x01LU", "\x02\x04T\x00LU", "\x02\x04TLU",
		"\x02\x04T\x01LU\x01", "\x02\x04T\x01LU\x01X", "\x02\x04T\x01\x01LU", "\x02\x04\x01T\x01LU", "\x02\x04T\x01LU\x00",
		"\x02\x04" + long + "\x01LU", "\x02\x04T\x01" + long, "\x02\x04T U\x01LU", "\x02\x04T\x01L U", "\x02\x04T\x01LU\n",
		"\x02\x04T\x01L\x7f", "\x02\x04\x7f\x01LU", "\x02\x04T\x01\x20", "\x02\x04\xc4\x01LU", "\x02\x04T\x01\xff",
		"\x02\x06", "\x02\x06\x05", "\x02\x06\x05\x01\x01", "\x02\x06\x04\x01", "\x02\x06\x01", "\x02\x06\x01\x05",
		"\x02\x07T", "\x02\x07T\x01LU", "\x02\x05\x06\x01", "\x02\x04T\x00",
		"\x03\x00", "\x03\x05\x02", "\x03\x06\x02", "\x03\x08", "\x03\x02\x04", "\x04\x03\x02",
		"\x03\x04\x02\x02", "\x03\x04\x02\x00\x02", "\x03\x07\x00\x00", "\x03\x07\x04\x03\x02\x01\x04", "\x03\x04\x05\x05", "\x03\x07\x02\xff\x00\xff",
		"\x03\x04" + strings.Repeat("\x02", 300), "\x03\x07" + strings.Repeat("\x07", 8192), strings.Repeat("\x08\x02", 9),
	}
	for _, p := range odd {
		if isMessage(p) {
			t.Errorf("%x is a message", p)
		}
		hearOdd(t, p)
	}
}

// P10.1: every reason of a reject is one byte, whatever it is.
func TestRejectByEveryReason(t *testing.T) {
	for b := range 256 {
		e := newEnd(t, "", "")
		hear(t, e, nego.TN3270E, sendDevice, "\x02\x07"+typeName, api.OK)
		hear(t, e, nego.TN3270E, "\x02\x06\x05"+string([]byte{byte(b)}), "", api.OK)
		check(t, e, view{refused, "", ""})
	}
}

// P10.1: names of a DEVICE-TYPE IS, the type's and the device's.
func TestDeviceNames(t *testing.T) {
	for s, ok := range named() {
		if strings.Contains(s, "\x01") {
			continue
		}
		for _, p := range []string{"\x02\x04" + s + "\x01LU9", "\x02\x04T\x01" + s, "\x02\x04" + s + "\x01" + s} {
			e := newEnd(t, "LU7", "\x00\x02")
			hear(t, e, nego.TN3270E, sendDevice, "\x02\x07"+typeName+"\x01LU7", api.OK)
			if !ok {
				hear(t, e, nego.TN3270E, p, "", api.ErrForm)
				check(t, e, view{askedDevice, "", ""})
				continue
			}
			hear(t, e, nego.TN3270E, p, "\x03\x07\x00\x02", api.OK)
			check(t, e, view{askedFunctions, p[strings.Index(p, "\x01")+1:], ""})
		}
	}
}

// P10.1: all short strings of the bytes that matter, in every state.
func TestShortStrings(t *testing.T) {
	const letters = "\x00\x01\x02\x03\x04\x05\x06\x07\x08\x20A\xff"
	var try func(p string, left int)
	try = func(p string, left int) {
		hearOdd(t, p)
		if left == 0 {
			return
		}
		for i := range len(letters) {
			try(p+letters[i:i+1], left-1)
		}
	}
	try("", 3)
	for _, start := range []string{"\x02\x04", "\x02\x06", "\x03\x04", "\x03\x07", "\x08\x02"} {
		try(start, 3)
	}
}

// P10.1: every two bytes, alone.
func TestTwoBytes(t *testing.T) {
	for a := range 256 {
		for b := range 256 {
			p := string([]byte{byte(a), byte(b)})
			e := newEnd(t, "", "")
			_, code := e.Hear(nego.TN3270E, []byte(p))
			want := api.ErrForm
			if isMessage(p) {
				want = api.ErrState
			}
			if p == sendDevice {
				want = api.OK
			}
			if code != want {
				t.Errorf("Hear(%x): %d, want %d", p, code, want)
			}
		}
	}
}

// P1, P2: whatever is heard, two ends that hear the same say the same and are the same.
func TestAnyBytes(t *testing.T) {
	r := rand.New(rand.NewSource(10))
	some := []string{sendDevice, deviceIs, deviceReject, functionsIs, functionsAsk, moreIs, moreAsk}
	for range 300 {
		a, b := newEnd(t, "LU7", "\x00\x02"), newEnd(t, "LU7", "\x00\x02")
		for range 60 {
			p := []byte(some[r.Intn(len(some))])
			if r.Intn(2) == 0 {
				p[r.Intn(len(p))] = byte(r.Intn(256))
			}
			if r.Intn(4) == 0 {
				p = p[:r.Intn(len(p)+1)]
			}
			option := []byte{nego.TN3270E, nego.TN3270E, nego.TN3270E, nego.TerminalType}[r.Intn(4)]
			first, code := a.Hear(option, p)
			hear(t, b, option, string(p), string(first), code)
			check(t, b, view{a.State(), a.Device(), string(a.Functions())})
		}
	}
}
