package host_test

import (
	"bytes"
	"strings"
	"testing"

	"vitrine/api"
	"vitrine/header"
	"vitrine/host"
	"vitrine/link"
)

func expectBytes(t *testing.T, what string, got []byte, want string) {
	t.Helper()
	if string(got) != want {
		t.Errorf("%s: %.80x, want %.80x", what, got, want)
	}
}

// plain is what a host begins with that does not ask for TN3270E.
const plain = "\xff\xfd\x18\xff\xfa\x18\x01\xff\xf0\xff\xfd\x19\xff\xfb\x19\xff\xfd\x00\xff\xfb\x00"

// extended is what a host begins with that asks for it; the device and the functions are as they are sent.
func extended(device, functions string) string {
	return "\xff\xfd\x28\xff\xfa\x28\x08\x02\xff\xf0\xff\xfa\x28\x02\x04IBM-3278\x01" + device + "\xff\xf0\xff\xfa\x28\x03\x04" + functions + "\xff\xf0"
}

// P24.2: Hello of both kinds, with devices and functions and without.
func TestHello(t *testing.T) {
	for _, device := range []string{"", "LU1", "A b", strings.Repeat("X", 300), "\x00\x01"} {
		for _, functions := range []string{"", "\x02", "\x00\x01\x02\x03\x04", "\x04\x02\x00", "\x02\x02", "\x09\xf0"} {
			expectBytes(t, "Hello", host.Hello(true, device, []byte(functions)), extended(device, functions))
			expectBytes(t, "Hello, not extended", host.Hello(false, device, []byte(functions)), plain)
		}
		expectBytes(t, "Hello without functions", host.Hello(true, device, nil), extended(device, ""))
		expectBytes(t, "Hello, not extended, without functions", host.Hello(false, device, nil), plain)
	}
	expectBytes(t, "Hello with ff", host.Hello(true, "L\xffU\xff", []byte("\xff\x02\xff\xff")), extended("L\xff\xffU\xff\xff", "\xff\xff\x02\xff\xff\xff\xff"))
}

// P24.2: a link that hears Hello at once, or byte by byte, is in the mode that it asks for.
func TestHelloAndLink(t *testing.T) {
	for _, c := range []struct {
		permitted, extended bool
		mode                int
	}{{false, false, 1}, {true, false, 1}, {true, true, 2}, {false, true, 0}} {
		hello := host.Hello(c.extended, "LU1", []byte{2})
		for _, size := range []int{1, 2, 5, len(hello)} {
			l, e := link.New(link.Config{Type: "IBM-3278-5-E", Functions: []byte{2}, Extended: c.permitted})
			if e != api.OK {
				t.Fatal(e)
			}
			for rest := hello; len(rest) > 0; rest = rest[min(size, len(rest)):] {
				for e := range l.Take(rest[:min(size, len(rest))]) {
					t.Errorf("an event %v", e)
				}
			}
			if l.Mode() != c.mode || l.Waiting() {
				t.Errorf("%+v: the mode is %d", c, l.Mode())
			}
			if c.mode == 2 && (l.End().Device() != "LU1" || !l.End().Has(2)) {
				t.Errorf("the device is %q", l.End().Device())
			}
			if name, ok := host.Name(l.Out()); c.mode == 1 && (name != "IBM-3278-5-E" || !ok) {
				t.Errorf("the name is %q, %t", name, ok)
			}
		}
	}
}

// records are data of records, each with what is sent of it.
func records() map[string]string {
	return map[string]string{
		"":                            "",
		"A":                           "A",
		"\xff":                        "\xff\xff",
		"\xff\xff":                    "\xff\xff\xff\xff",
		"A\xffB\xef":                  "A\xff\xffB\xef",
		"\xff\xefA":                   "\xff\xff\xefA",
		"\x00\x00\x02\x00\x05\xf1":    "\x00\x00\x02\x00\x05\xf1",
		strings.Repeat("\xffx", 8192): strings.Repeat("\xff\xffx", 8192),
	}
}

// P24.2: a record as it is sent, whatever is in it.
func TestWrap(t *testing.T) {
	for data, sent := range records() {
		expectBytes(t, "Wrap", host.Wrap([]byte(data)), sent+"\xff\xef")
	}
	expectBytes(t, "Wrap of nothing", host.Wrap(nil), "\xff\xef")
}

// P24.2: a record with a header, valid ones and invalid ones.
func TestHeaded(t *testing.T) {
	for data, sent := range records() {
		p, e := host.Headed(header.Header{Type: 5, Request: 0xff, Response: 2, Seq: 0xff05}, []byte(data))
		if e != api.OK {
			t.Errorf("Headed: %d", e)
		}
		expectBytes(t, "Headed", p, "\x05\xff\xff\x02\xff\xff\x05"+sent+"\xff\xef")
	}
	for kind := range 256 {
		for response := range 256 {
			h := header.Header{Type: byte(kind), Request: 3, Response: byte(response), Seq: 0x1234}
			want, fault := string([]byte{byte(kind), 3, byte(response), 0x12, 0x34})+"AB\xff\xef", api.OK
			if kind > 8 || response > 2 || kind == 2 && response > 1 {
				want, fault = "", api.ErrArg
			}
			p, e := host.Headed(h, []byte("AB"))
			if e != fault {
				t.Errorf("Headed of %v: %d, want %d", h, e, fault)
			}
			expectBytes(t, "Headed", p, want)
		}
	}
	for _, empty := range [][]byte{nil, {}} {
		p, e := host.Headed(header.Header{}, empty)
		if e != api.OK {
			t.Errorf("Headed: %d", e)
		}
		expectBytes(t, "Headed of nothing", p, "\x00\x00\x00\x00\x00\xff\xef")
		if p, e := host.Headed(header.Header{Type: 9}, empty); p != nil || e != api.ErrArg {
			t.Errorf("Headed of nothing: %x, %d", p, e)
		}
	}
}

// The rule of memory: what is passed in is not changed, and what is returned is new.
func TestSentSharesNothing(t *testing.T) {
	for _, build := range []func(p []byte) []byte{
		func(p []byte) []byte { return host.Hello(true, "LU1", p) },
		func(p []byte) []byte { return host.Hello(false, "LU1", p) },
		host.Wrap,
		func(p []byte) []byte { b, _ := host.Headed(header.Header{Type: 1, Seq: 7}, p); return b },
	} {
		for _, s := range []string{"", "\x02\x04", "A\xffB"} {
			p := spare(s)
			first, second := build(p), build(p)
			want := string(second)
			overwrite(first)
			if !untouched(p, s) || string(second) != want || !bytes.Equal(build([]byte(s)), second) {
				t.Errorf("%x and %x after another answer is overwritten, want %x", p[:cap(p)], second, want)
			}
			overwrite(p)
			if string(second) != want {
				t.Errorf("%x after the argument is overwritten, want %x", second, want)
			}
		}
	}
}
