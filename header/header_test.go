package header_test

import (
	"bytes"
	"math"
	"testing"

	"vitrine/api"
	"vitrine/header"
)

// The types that the tests speak of.
const (
	response = 2
	request  = 6
)

// overwrite fills a slice and its spare capacity.
func overwrite(p []byte) {
	p = p[:cap(p)]
	for i := range p {
		p[i] = 0x99
	}
}

// allowed tells, by fixed answers, how great the response byte of a type may be; -1: there is no such type.
func allowed(kind int) int {
	switch kind {
	case 0, 1, 3, 4, 5, 6, 7, 8:
		return 2
	case 2:
		return 1
	}
	return -1
}

// P9.1: every type with every response byte, made and parsed.
func TestTypesAndResponses(t *testing.T) {
	for kind := range 256 {
		for resp := range 256 {
			h := header.Header{Type: byte(kind), Request: byte(kind ^ resp), Response: byte(resp), Seq: 0x1234}
			raw := []byte{byte(kind), byte(kind ^ resp), byte(resp), 0x12, 0x34}
			p, e := h.Bytes()
			back, rest, parsed := header.Parse(append(raw, "ab"...))
			if resp > allowed(kind) {
				if e != api.ErrArg || len(p) != 0 {
					t.Errorf("Bytes of %v: %x, %d", h, p, e)
				}
				if parsed != api.ErrArg || back != (header.Header{}) || len(rest) != 0 {
					t.Errorf("Parse(%x): %v, %x, %d", raw, back, rest, parsed)
				}
				continue
			}
			if e != api.OK || !bytes.Equal(p, raw) {
				t.Errorf("Bytes of %v: %x, %d", h, p, e)
			}
			if parsed != api.OK || back != h || string(rest) != "ab" {
				t.Errorf("Parse(%x): %v, %x, %d", raw, back, rest, parsed)
			}
		}
	}
}

// P9.1: every sequence number and every request, there and back.
func TestNumbersAndRequests(t *testing.T) {
	for seq := range 65536 {
		h := header.Header{Type: byte(seq % 9), Request: byte(seq * 7), Response: byte(seq % 2), Seq: uint16(seq)}
		p, e := h.Bytes()
		if e != api.OK || !bytes.Equal(p, []byte{h.Type, h.Request, h.Response, byte(seq / 256), byte(seq % 256)}) {
			t.Fatalf("Bytes of %v: %x, %d", h, p, e)
		}
		if back, rest, e := header.Parse(p); e != api.OK || back != h || len(rest) != 0 {
			t.Fatalf("Parse(%x): %v, %x, %d", p, back, rest, e)
		}
	}
}

// P9.1: the document's example, and bytes after the header.
func TestParse(t *testing.T) {
	h, rest, e := header.Parse([]byte("\x00\x00\x02\x00\x05\xf1"))
	if e != api.OK || h != (header.Header{Response: 2, Seq: 5}) || string(rest) != "\xf1" {
		t.Error(h, rest, e)
	}
	for n := range 40 {
		data := bytes.Repeat([]byte{0xff}, n)
		h, rest, e := header.Parse(append([]byte{2, 0xff, 1, 0xff, 0xfe}, data...))
		if e != api.OK || h != (header.Header{Type: 2, Request: 0xff, Response: 1, Seq: 65534}) || !bytes.Equal(rest, data) {
			t.Errorf("%d bytes after the header: %v, %x, %d", n, h, rest, e)
		}
	}
}

// P9.1: too few bytes, also if those that are there are of no valid header.
func TestParseOfTooFewBytes(t *testing.T) {
	for _, whole := range []string{"\x00\x00\x02\x00\x05", "\x09\x00\x00\x00\x00", "\x02\x00\x02\x00\x00", "\xff\xff\xff\xff\xff"} {
		for n := range 5 {
			if h, rest, e := header.Parse([]byte(whole)[:n]); e != api.ErrShort || h != (header.Header{}) || len(rest) != 0 {
				t.Errorf("Parse(%x): %v, %x, %d", whole[:n], h, rest, e)
			}
		}
	}
	if h, rest, e := header.Parse(nil); e != api.ErrShort || h != (header.Header{}) || len(rest) != 0 {
		t.Error(h, rest, e)
	}
}

// P9.1: the names of the types.
func TestName(t *testing.T) {
	names := []string{"3270-DATA", "SCS-DATA", "RESPONSE", "BIND-IMAGE", "UNBIND", "NVT-DATA", "REQUEST", "SSCP-LU-DATA", "PRINT-EOJ"}
	for kind := range 256 {
		want := ""
		if kind < len(names) {
			want = names[kind]
		}
		if got := header.Name(byte(kind)); got != want {
			t.Errorf("Name(%d) is %q", kind, got)
		}
	}
}

// P9.2: responses of every number and code. They are headers of the type RESPONSE and a byte.
func TestResponses(t *testing.T) {
	for seq := range 65536 {
		high, low := byte(seq/256), byte(seq%256)
		p := header.Positive(uint16(seq))
		if !bytes.Equal(p, []byte{2, 0, 0, high, low, 0}) {
			t.Fatalf("Positive(%d): %x", seq, p)
		}
		code := byte(seq % 4)
		n, e := header.Negative(uint16(seq), code)
		if e != api.OK || !bytes.Equal(n, []byte{2, 0, 1, high, low, code}) {
			t.Fatalf("Negative(%d, %d): %x, %d", seq, code, n, e)
		}
		if h, rest, e := header.Parse(n); e != api.OK || h != (header.Header{Type: response, Response: 1, Seq: uint16(seq)}) || !bytes.Equal(rest, []byte{code}) {
			t.Fatalf("Parse(%x): %v, %x, %d", n, h, rest, e)
		}
	}
	for code := range 256 {
		n, e := header.Negative(258, byte(code))
		if code > 3 {
			if e != api.ErrArg || len(n) != 0 {
				t.Errorf("Negative(258, %d): %x, %d", code, n, e)
			}
		} else if e != api.OK || !bytes.Equal(n, []byte{2, 0, 1, 1, 2, byte(code)}) {
			t.Errorf("Negative(258, %d): %x, %d", code, n, e)
		}
	}
}

// codes has the codes by the errors' numbers.
var codes = [16]byte{2, 2, 2, 3, 2, 2, 1, 3, 1, 2, 2, 0, 2, 2, 2, 2}

var noErrors = []api.Errno{-1, -3, 16, 17, 256 + 11, 1 << 32, math.MinInt, math.MaxInt}

// P9.2: the code of every error, and of numbers that are none.
func TestCode(t *testing.T) {
	for e, want := range codes {
		if got := header.Code(api.Errno(e)); got != want {
			t.Errorf("Code(%d) is %d", e, got)
		}
	}
	for _, e := range noErrors {
		if got := header.Code(e); got != 2 {
			t.Errorf("Code(%d) is %d", e, got)
		}
	}
	if header.Code(api.ErrCommand) != 0 || header.Code(api.ErrLong) != 3 || header.Code(api.ErrFull) != 3 || header.Code(api.ErrState) != 1 || header.Code(api.ErrLocked) != 1 {
		t.Error("codes by name")
	}
}

// answer tells what the answer to a header is; nil: there is none.
func answer(h header.Header, e api.Errno, code byte) []byte {
	if h.Type == response || h.Type == request {
		return nil
	}
	high, low := byte(h.Seq/256), byte(h.Seq%256)
	if e == api.OK && h.Response == 2 {
		return []byte{2, 0, 0, high, low, 0}
	}
	if e != api.OK && (h.Response == 1 || h.Response == 2) {
		return []byte{2, 0, 1, high, low, code}
	}
	return nil
}

func checkAnswer(t *testing.T, h header.Header, e api.Errno, code byte) {
	t.Helper()
	got, ok := header.Answer(h, e)
	want := answer(h, e, code)
	if ok != (want != nil) || !bytes.Equal(got, want) {
		t.Errorf("Answer(%v, %d): %x, %v; want %x", h, e, got, ok, want)
	}
}

// P9.2, P8: the answer to every type and response byte, by every error.
func TestAnswer(t *testing.T) {
	for kind := range 256 {
		for resp := range 256 {
			h := header.Header{Type: byte(kind), Request: byte(resp), Response: byte(resp), Seq: uint16(kind*256 + 255 - resp)}
			for e, code := range codes {
				checkAnswer(t, h, api.Errno(e), code)
			}
			for _, e := range noErrors {
				checkAnswer(t, h, e, 2)
			}
		}
	}
}

// P9.2: answers by fixed bytes.
func TestAnswerExamples(t *testing.T) {
	for _, c := range []struct {
		h    header.Header
		e    api.Errno
		want string
	}{
		{header.Header{Response: 2, Seq: 5}, api.OK, "\x02\x00\x00\x00\x05\x00"},
		{header.Header{Response: 2, Seq: 5}, api.ErrCommand, "\x02\x00\x01\x00\x05\x00"},
		{header.Header{Response: 1, Seq: 258}, api.ErrLocked, "\x02\x00\x01\x01\x02\x01"},
		{header.Header{Type: 1, Request: 1, Response: 1, Seq: 65535}, api.ErrAddr, "\x02\x00\x01\xff\xff\x02"},
		{header.Header{Type: 8, Response: 2, Seq: 32768}, api.ErrFull, "\x02\x00\x01\x80\x00\x03"},
		{header.Header{Response: 1}, api.OK, ""},
		{header.Header{}, api.ErrOrder, ""},
		{header.Header{}, api.OK, ""},
		{header.Header{Response: 3}, api.ErrOrder, ""},
		{header.Header{Type: 2, Response: 1}, api.ErrOrder, ""},
		{header.Header{Type: 2, Response: 2}, api.OK, ""},
		{header.Header{Type: 6, Response: 2}, api.OK, ""},
		{header.Header{Type: 6, Response: 1}, api.ErrState, ""},
	} {
		if got, ok := header.Answer(c.h, c.e); string(got) != c.want || ok != (c.want != "") {
			t.Errorf("Answer(%v, %d): %x, %v", c.h, c.e, got, ok)
		}
	}
}

// P9.2: every number's next.
func TestNext(t *testing.T) {
	for seq := range 65536 {
		want := 0
		if seq < 32767 {
			want = seq + 1
		}
		if got := header.Next(uint16(seq)); int(got) != want {
			t.Fatalf("Next(%d) is %d", seq, got)
		}
	}
}

// The rule of memory: Parse keeps and changes nothing of its argument, and its rest is new.
func TestMemoryOfParse(t *testing.T) {
	room := []byte("\x00\x00\x02\x00\x05abc\x99\x99\x99\x99")
	before := bytes.Clone(room)
	_, first, _ := header.Parse(room[:8])
	_, second, _ := header.Parse(room[:8])
	overwrite(first)
	if !bytes.Equal(room, before) {
		t.Errorf("the argument of Parse became %x", room)
	}
	if string(second) != "abc" {
		t.Errorf("%x", second)
	}
	overwrite(room)
	second = append(second, 'd')
	if string(second) != "abcd" || !bytes.Equal(room, bytes.Repeat([]byte{0x99}, len(room))) {
		t.Errorf("%x, %x", second, room)
	}
	room = []byte("\x00\x00\x02\x00\x05abc")
	if _, none, _ := header.Parse(room[:5]); len(none) != 0 {
		t.Errorf("%x", none)
	} else if _ = append(none, 'z'); string(room[5:]) != "abc" {
		t.Error("an empty rest has the room of the argument")
	}
}

// The rule of memory: the other results are new each time.
func TestMemoryOfResults(t *testing.T) {
	h := header.Header{Response: 2, Seq: 5}
	for name, make := range map[string]func() []byte{
		"Bytes":    func() []byte { p, _ := h.Bytes(); return p },
		"Positive": func() []byte { return header.Positive(5) },
		"Negative": func() []byte { p, _ := header.Negative(5, 3); return p },
		"Answer":   func() []byte { p, _ := header.Answer(h, api.OK); return p },
		"not OK":   func() []byte { p, _ := header.Answer(h, api.ErrArg); return p },
	} {
		first, second := make(), make()
		want := bytes.Clone(first)
		overwrite(first)
		if !bytes.Equal(second, want) || !bytes.Equal(make(), want) {
			t.Errorf("%s: %x", name, second)
		}
	}
}
