package nego_test

import (
	"strings"
	"testing"

	"vitrine/api"
	"vitrine/nego"
)

// named returns texts, and whether they are names: every byte alone and at each end of a name, and all lengths about the limit.
func named() map[string]bool {
	l := map[string]bool{"": false, "IBM-3278-2-E": true, "a b": false, "a\x01b": false, "ä": false, "a\x00": false}
	for b := range 256 {
		isIn := b >= 0x21 && b <= 0x7e
		s := string([]byte{byte(b)})
		for _, text := range []string{s, s + "LU", "LU" + s, "L" + s + "U", strings.Repeat(s, 40), strings.Repeat("x", 39) + s} {
			l[text] = isIn
		}
	}
	for n := range 300 {
		l[strings.Repeat("n", n)] = n >= 1 && n <= 40
	}
	return l
}

// P10.2: what is a name.
func TestName(t *testing.T) {
	for s, want := range named() {
		if nego.Name(s) != want {
			t.Errorf("Name(%q) is %v", s, !want)
		}
	}
}

// P10.1: a type is a name, and a device a name or nothing; ErrForm comes ahead of ErrArg.
func TestNewOfNames(t *testing.T) {
	for _, functions := range [][]byte{nil, {0, 1, 2, 3, 4}, {5}, {2, 2}} {
		code := api.OK
		if len(functions) == 1 || len(functions) == 2 {
			code = api.ErrArg
		}
		for s, isName := range named() {
			want := code
			if !isName {
				want = api.ErrForm
			}
			checkNew(t, nego.Config{Type: s, Functions: functions}, want)
			checkNew(t, nego.Config{Type: s, Device: "LU", Functions: functions}, want)
			if s == "" {
				want = code
			}
			checkNew(t, nego.Config{Type: "T", Device: s, Functions: functions}, want)
			checkNew(t, nego.Config{Type: "", Device: s, Functions: functions}, api.ErrForm)
			checkNew(t, nego.Config{Type: "no name", Device: s, Functions: functions}, api.ErrForm)
		}
	}
}

// checkNew also asks the new end for its names.
func checkNew(t *testing.T, c nego.Config, want api.Errno) {
	t.Helper()
	e, code := nego.New(c)
	if code != want || (e != nil) != (want == api.OK) {
		t.Errorf("New(%q): an end is %v, %d; want %d", c, e != nil, code, want)
	}
	if e == nil {
		return
	}
	check(t, e, view{})
	device := ""
	if c.Device != "" {
		device = "\x01" + c.Device
	}
	hear(t, e, nego.TerminalType, "\x01", "\x00"+c.Type, api.OK)
	hear(t, e, nego.TN3270E, sendDevice, "\x02\x07"+c.Type+device, api.OK)
}

// P10.1: functions are increasing and at most 4; all lists of up to four of 0 to 5, and some others.
func TestNewOfFunctions(t *testing.T) {
	lists := []string{""}
	for first := 0; first < len(lists); first++ {
		if len(lists[first]) == 4 {
			break
		}
		for b := range 6 {
			lists = append(lists, lists[first]+string([]byte{byte(b)}))
		}
	}
	for b := 5; b < 256; b++ {
		lists = append(lists, string([]byte{byte(b)}), string([]byte{0, 4, byte(b)}))
	}
	lists = append(lists, "\x00\x01\x02\x03\x04", "\x00\x01\x02\x03\x04\x04", "\x00\x01\x02\x03\x04\x05", "\x04\x03\x02\x01\x00", strings.Repeat("\x00", 300))
	for _, l := range lists {
		want := api.OK
		for i := range len(l) {
			if l[i] > 4 || i > 0 && l[i-1] >= l[i] {
				want = api.ErrArg
			}
		}
		checkNew(t, nego.Config{Type: "T", Functions: []byte(l)}, want)
	}
}

// P10.2: every code.
func TestReason(t *testing.T) {
	names := []string{"CONN-PARTNER", "DEVICE-IN-USE", "INV-ASSOCIATE", "INV-NAME", "INV-DEVICE-TYPE", "TYPE-NAME-ERROR", "UNKNOWN-ERROR", "UNSUPPORTED-REQ"}
	for code := range 256 {
		want := ""
		if code < len(names) {
			want = names[code]
		}
		if got := nego.Reason(byte(code)); got != want {
			t.Errorf("Reason(%d) is %q, want %q", code, got, want)
		}
	}
}
