package session_test

import (
	"slices"
	"strings"
	"testing"

	"vitrine/api"
	"vitrine/header"
	"vitrine/host"
)

// outcome is a record and the error that it results in.
type outcome struct {
	record string
	e      api.Errno
}

// outcomes are records with each of the errors that a terminal has for them.
var outcomes = []outcome{
	{"", api.OK}, {"\xf1\x40", api.OK}, {form, api.OK}, {"\x03", api.OK}, {"\x6f", api.OK}, {"\xf3", api.OK}, {"\xf3\x00\x04\x0e\x00", api.OK},
	{"\xf1\x40\x11", api.ErrShort}, {"\xf3\x00\x05\x01", api.ErrShort}, {"\xf1\x40\x11\x5e\x40", api.ErrAddr}, {"\xf1\x40\x28\x41\xf3", api.ErrOrder}, {"\xf3" + badField, api.ErrOrder},
	{"\x99", api.ErrCommand}, {"\xf3\x00\x05\x40\x00\x99", api.ErrForm},
}

// P25.4: a record that asks always gets exactly one response, positive or negative; one that asks on errors gets one if it was rejected, and no other gets one. The number is the record's.
func TestResponses(t *testing.T) {
	for _, o := range outcomes {
		for response := range byte(3) {
			for _, seq := range []uint16{0, 1, 0xff, 0x100, 0x7fff, 0xffff} {
				s := reach(t, extended)
				want := ""
				switch {
				case response == 2 && o.e == api.OK:
					want = positive(seq)
				case response > 0 && o.e == api.ErrCommand:
					want = negative(seq, 0)
				case response > 0 && o.e != api.OK:
					want = negative(seq, 2)
				}
				takes(t, s, headed(0, response, seq, o.record), 1, want)
				checkErrors(t, o.record, s, o.e)
			}
		}
	}
}

// P25.4: of the other types only a text is processed; a RESPONSE and a REQUEST have no response.
func TestResponsesOfTypes(t *testing.T) {
	for kind := range byte(9) {
		for response := range byte(3) {
			if kind == 2 && response == 2 {
				continue
			}
			s := reach(t, extended)
			want := ""
			if response > 0 && kind != 0 && kind != 2 && kind != 5 && kind != 6 {
				want = negative(9, 0)
			}
			if response == 2 && (kind == 0 || kind == 5) {
				want = positive(9)
			}
			takes(t, s, headed(kind, response, 9, "\xf1\x40"), 1, want)
			want = ""
			if response > 0 && kind != 2 && kind != 6 {
				want = negative(10, 3)
			}
			takes(t, s, headed(kind, response, 10, most), 1, want)
		}
	}
}

// P25.4: there are no responses if the function was not agreed on, and none in mode 1.
func TestNoResponses(t *testing.T) {
	s := newSession(t, usual())
	takes(t, s, toFuncs+noFuncsIs, 0, saysExt)
	for _, o := range outcomes {
		takes(t, s, headed(0, 2, 1, o.record)+headed(0, 1, 1, o.record), 2, "")
	}
	takes(t, s, headed(5, 2, 1, "nvt")+headed(1, 2, 1, "")+headed(0, 2, 1, most), 3, "")
	if n := len(slices.Collect(s.Errors())); n != 2*len(outcomes)+3 {
		t.Error(n)
	}
	s = reach(t, basic)
	for _, o := range outcomes {
		takes(t, s, wrapped(o.record), 1, "")
		// In mode 1 a header is no header: 00 is no command.
		takes(t, s, headed(0, 2, 1, o.record), 1, "")
	}
}

// P25.4: among whatever else is received and pressed, the responses are those of the records that ask, one by one.
func TestResponsesByChance(t *testing.T) {
	r := newRandom(11)
	for range 100 {
		s := reach(t, extended)
		var p, got, want []byte
		var errors []api.Errno
		for seq := range 60 {
			h := header.Header{Type: pick[byte](r, 0, 0, 0, 0, 1, 3, 5, 6), Request: byte(r.IntN(256)), Response: byte(r.IntN(3)), Seq: uint16(seq * 531)}
			o := pick(r, outcomes...)
			e := o.e
			switch {
			case r.IntN(20) == 0:
				o.record, e = most, api.ErrLong
			case h.Type == 5:
				e = api.OK
			case h.Type != 0:
				e = api.ErrCommand
			}
			if answer, ok := header.Answer(h, e); ok {
				want = append(want, host.Wrap(answer)...)
			}
			errors = append(errors, e)
			record, _ := host.Headed(h, []byte(o.record))
			p = append(p, record...)
			p = append(p, pick(r, "", "", "\xff\xf1", headed(2, 0, 5, "\x00"), "\x00"+eor, "\xff\xfe\x01", "\xff\xfa\x28\x00\xff\xf0")...)
			if r.IntN(4) > 0 {
				s.Bytes(p)
				p = nil
				s.Key(randomKey(r))
			}
		}
		s.Bytes(p)
		checkErrors(t, "by chance", s, errors...)
		for piece := range host.Pieces(s.Out(), true) {
			if piece.Header.Type == 2 {
				front, _ := piece.Header.Bytes()
				got = append(got, host.Wrap(append(front, piece.Data...))...)
			}
		}
		if string(got) != string(want) {
			t.Fatalf("the responses are %x, want %x", got, want)
		}
	}
}

// stream reaches every mode, and every kind of event in it.
func stream() string {
	return strings.Join([]string{
		"hi\xff\xff\xff\xffthere", eor, "\xff\xf1", "x", "\xff\xfd\x03", toBasic, wrapped(form), wrapped("\xf6"), "\xf1\x42\xc5", "\xff\xfa\x18\x01\xff\xf0", eor, wrapped("\x99"), "lost", leave, "plain" + eor,
		back, wrapped("\xf3" + queryField + badField), wrapped(most + "A"), "lost", toFuncs, "text\xff\xff", funcsIs, headed(0, 2, 0x1ff, form), headed(0, 2, 1, "\xf3"+readField+readField+badField),
		headed(5, 2, 2, "nvt\xff"), headed(2, 0, 3, "\x00"), headed(3, 1, 4, ""), "\x09" + eor, eor, headed(0, 1, 5, most), headed(9, 1, 5, most), headed(0, 2, 6, "\xf1\x46\x11\x40\xc3\x13"), "lost", dontExt,
		wrapped("\x7e\x40\xc1"), toExt, headed(0, 2, 7, "\xf2"), "\x00\x00\x02\x00\x08\xff",
	}, "")
}

// played is the session, the number of events and what was sent after some pieces.
func played(t *testing.T, pieces ...string) (string, int, func(what string)) {
	t.Helper()
	s := newSession(t, usual())
	events := 0
	out := ""
	for i, p := range pieces {
		events += s.Bytes([]byte(p))
		if i%2 == 0 {
			out += string(s.Out())
		}
	}
	whole := newSession(t, usual())
	whole.Bytes([]byte(strings.Join(pieces, "")))
	return out + string(s.Out()), events, func(what string) {
		t.Helper()
		if !same(s, whole) {
			t.Fatalf("%s: another session: %+v, want %+v", what, s.View(), whole.View())
		}
	}
}

// P25.3 and P3: a stream that is cut at each place, and into single bytes: the same bytes are sent, and the session is the same.
func TestEverySplit(t *testing.T) {
	p := stream()
	want, events, _ := played(t, p)
	if events != 18 {
		t.Fatal(events)
	}
	check := func(what string, pieces ...string) {
		t.Helper()
		out, n, compare := played(t, pieces...)
		if out != want || n != events {
			t.Fatalf("%s: %d events, want %d; %.200x is sent, want %.200x", what, n, events, out, want)
		}
		compare(what)
	}
	for at := range len(p) + 1 {
		// Within a run of the same bytes the places around its beginning and its end suffice.
		if at > 20 && at < len(p)-20 && p[at-20:at+20] == most[:40] {
			continue
		}
		check(p[:min(at, 40)], p[:at], "", p[at:])
	}
	check("single bytes", bytewise(p)...)
}

// bytewise has the single bytes of p.
func bytewise(p string) []string {
	var l []string
	for i := range len(p) {
		l = append(l, p[i:i+1])
	}
	return l
}
