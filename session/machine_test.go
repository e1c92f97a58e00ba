package session_test

import (
	"fmt"
	"math/rand/v2"
	"slices"
	"strings"
	"testing"

	"vitrine/api"
	"vitrine/entry"
	"vitrine/host"
	"vitrine/keys"
	"vitrine/link"
	"vitrine/option"
	"vitrine/session"
	"vitrine/term"
)

// machine does by the layers below what the chapter says of a session, and takes each byte alone.
type machine struct {
	line   *link.Link
	term   *term.Term
	text   string
	errors []api.Errno
}

func newMachine(t *testing.T, c session.Config) *machine {
	t.Helper()
	l, e := link.New(c.Link)
	x, f := term.New(c.Model, c.Page)
	if e != api.OK || f != api.OK {
		t.Fatal(e, f)
	}
	return &machine{line: l, term: x}
}

func (m *machine) bytes(p []byte) int {
	events := 0
	for i := range p {
		for e := range m.line.Take(p[i : i+1]) {
			events += m.event(e)
		}
	}
	return events
}

// event returns how much an event counts.
func (m *machine) event(e link.Event) int {
	code := api.OK
	switch e.Kind {
	case link.Text:
		m.text += string(e.Data)
		m.text = m.text[max(0, len(m.text)-api.MaxText):]
		if !e.Headed {
			return 0
		}
	case link.Screen:
		results, failed := m.term.Host(e.Data)
		for _, p := range results {
			m.line.Send(p)
		}
		code = failed
	case link.Other:
		code = api.ErrCommand
	case link.Long:
		code = api.ErrLong
	case link.Answer, link.Bad:
		return 1
	}
	m.errors = append(m.errors, code)
	m.line.Respond(e, code)
	return 1
}

func (m *machine) key(k keys.Key) api.Errno {
	if m.line.Mode() == plain {
		return api.ErrState
	}
	p, e := m.term.Key(k)
	if p != nil {
		m.line.Send(p)
	}
	return e
}

func (m *machine) types(text string) (int, api.Errno) {
	n := 0
	for _, sign := range text {
		if e := m.key(keys.Key{Kind: keys.Char, Sign: sign}); e != api.OK {
			return n, e
		}
		n++
	}
	return n, api.OK
}

func (m *machine) out() []byte {
	return m.line.Out()
}

// compare asks for all that can be asked of a session but what it sends.
func (m *machine) compare(t *testing.T, what string, s *session.Session) {
	t.Helper()
	checkView(t, what, s, session.View{Mode: m.line.Mode(), Device: m.line.End().Device(), State: m.term.State(), Text: m.text, Waits: m.line.Waiting()})
	checkErrors(t, what, s, m.errors[max(0, len(m.errors)-64):]...)
	if !s.Screen().Same(m.term.Screen()) {
		t.Fatalf("%.60x: the screens differ at %d", what, s.Screen().Diff(m.term.Screen()))
	}
	for _, name := range names {
		if got, want := s.Tally().Get(name), m.term.Tally().Get(name); got != want {
			t.Fatalf("%.60x: %s is %d, want %d", what, name, got, want)
		}
	}
	for side := range 2 {
		if !slices.Equal(slices.Collect(s.Options().Agreed(side)), slices.Collect(m.line.Options().Agreed(side))) {
			t.Fatalf("%.60x: other options", what)
		}
	}
}

func newRandom(seed uint64) *rand.Rand {
	return rand.New(rand.NewPCG(25, seed))
}

func pick[T any](r *rand.Rand, l ...T) T {
	return l[r.IntN(len(l))]
}

// randomOrders are mostly good ones, of small addresses, so that they meet.
func randomOrders(r *rand.Rand) string {
	l := ""
	for range r.IntN(9) {
		address := "\x40" + string([]byte{"\x40\xc1\xc2\xc3\xc4\xc9\x50\x5f"[r.IntN(8)]})
		l += pick(r, "\x11"+address, "\x11"+address, "\x1d\x40", "\x1d\xc1", "\x1d\x60", "\x1d\xf0", "\x1d\xc4\x6f\xc1", "\x1d\xe4\x40\xc1", "\x1d\x50", "\x29\x02\xc0\xc1\x42\xf2",
			"\x28\x42\xf4", "\x08\xc5", "\x13", "\x13", "\x05", "\x12"+address, "\x3c"+address+"\x60", "\xc1\xc2", "\xc1\x00\xc3", "\xff\xf1")
		if r.IntN(30) == 0 {
			l += pick(r, "\x11\x7f\x7f", "\x28\x41\xf3", "\x2c\x00", "\x1d", "\x11\x40")
		}
	}
	return l
}

func randomRecord(r *rand.Rand) string {
	switch r.IntN(9) {
	case 0:
		return pick(r, "\xf2", "\xf6", "\x6e", "\x6f", "", "\x99", "\x03")
	case 1:
		l := "\xf3"
		for range r.IntN(4) {
			l += pick(r, queryField, readField, "\x00\x05\x09\x00\x02", "\x00\x04\x03\x80", "\x00\x04\x0d\x00", "\x00\x06\x40\x00\xf1\xc3", badField)
		}
		return l
	}
	return pick(r, "\xf1", "\xf1", "\xf5", "\x7e") + string([]byte{byte(r.IntN(256))}) + randomOrders(r)
}

// randomKey is any key; those that lock the keyboard until the host frees it are seldom.
func randomKey(r *rand.Rand) keys.Key {
	kind := r.IntN(24)
	if kind >= keys.Enter && kind <= keys.Clear && r.IntN(3) > 0 {
		kind = keys.Char
	}
	return keys.Key{Kind: kind, Sign: pick(r, 'A', 'b', '1', '.', ' ', '?', 'ä', '€', '\n'), N: pick(r, 1, 2, 3, 12, 24, 25, 0, 0x40, 0xc1, 0xf1, 0x11)}
}

// randomPart is an element of a host's stream, or a record that is wrapped for one of the modes.
func randomPart(r *rand.Rand) string {
	switch r.IntN(16) {
	case 0:
		return pick(r, "a", "text", "\xff\xff", eor, "\xff\xf1", "\xff\xfa\x18\x01\xff\xf0", "\xff\xfa\x18\x01\xff\xf1", "\xff\xfd\x03", "\xff\xfc\x18", "\xff", "\xff\xfa")
	case 1:
		return pick(r, toBasic, toExt, toBasic, toExt, dontExt, leave, back, sendDev, deviceIs, funcsIs, noFuncsIs, doExt)
	case 2:
		if r.IntN(4) > 0 {
			return "b"
		}
		return pick(r, strings.Repeat("text", 500), wrapped(most+"A"), headed(0, 2, 77, most), headed(5, 1, 78, most[:5000]), "\xff\xfa\x28"+most[:400]+"\xff\xf0")
	case 3, 4:
		return wrapped(randomRecord(r))
	case 5, 6:
		return headed(byte(r.IntN(10)), byte(r.IntN(4)), uint16(r.IntN(40000)), pick(r, "nvt", "", "\xff", "\x00"))
	case 7:
		return string([]byte{byte(r.IntN(256)), byte(r.IntN(256))})
	}
	return headed(0, byte(r.IntN(3)), uint16(r.IntN(300)), randomRecord(r))
}

// bothPress presses a key, or types a text, on the session and the machine.
func bothPress(t *testing.T, r *rand.Rand, s *session.Session, m *machine) {
	t.Helper()
	if r.IntN(4) == 0 {
		text := pick(r, "A1", "12-", "xyzäö", "A\nB", "")
		n, e := m.types(text)
		if got, failed := s.Type(text); got != n || failed != e {
			t.Fatalf("Type(%q): %d, %d, want %d, %d", text, got, failed, n, e)
		}
		return
	}
	k := randomKey(r)
	want := m.key(k)
	if e := s.Key(k); e != want {
		t.Fatalf("%+v: %d, want %d", k, e, want)
	}
}

// P25.1 to P25.3: sessions by chance, in pieces of any size, do the same as the machine, which takes each byte alone.
func TestByChance(t *testing.T) {
	r := newRandom(1)
	var modes [3]int
	for i := range 150 {
		c := usual()
		c.Model, c.Page = 2+i%4, pick(r, 37, 273, 1140)
		c.Link.Extended = i%5 > 0
		s, m := newSession(t, c), newMachine(t, c)
		if i%3 > 0 {
			said := []byte(pick(r, toBasic, toExt, toExt))
			s.Bytes(said)
			m.bytes(said)
		}
		for range 40 {
			p := ""
			for range r.IntN(6) {
				p += randomPart(r)
			}
			events, want := 0, m.bytes([]byte(p))
			for rest := []byte(p); len(rest) > 0; {
				n := min(len(rest), 1+r.IntN(pick(r, 3, 20, 1000)))
				events += s.Bytes(rest[:n])
				rest = rest[n:]
			}
			if events != want {
				t.Fatalf("%x: %d events, want %d", p, events, want)
			}
			if r.IntN(2) == 0 {
				checkOut(t, p, s, string(m.out()))
			}
			m.compare(t, p, s)
			for range r.IntN(5) {
				bothPress(t, r, s, m)
			}
			m.compare(t, "keys", s)
			modes[s.View().Mode]++
		}
		checkOut(t, "the end", s, string(m.out()))
	}
	if slices.Min(modes[:]) < 500 {
		t.Error("a mode is too seldom: ", modes)
	}
}

// P1 and P2: bytes and keys of any kind, which may mean nothing; the same again has the same answers.
func TestAnyBytes(t *testing.T) {
	r := newRandom(2)
	for range 300 {
		s, again, m := newSession(t, usual()), newSession(t, usual()), newMachine(t, usual())
		for range 20 {
			p := make([]byte, r.IntN(60))
			for i := range p {
				p[i] = byte(r.IntN(256))
				if r.IntN(2) == 0 {
					p[i] = pick[byte](r, 0xff, 0xff, 0xff, 0xfd, 0xfb, 0xfa, 0xf0, 0xef, 0, 0x18, 0x19, 0x28, 1, 2, 3, 4, 7, 8)
				}
			}
			events := m.bytes(p)
			if a, b := s.Bytes(p), again.Bytes(p); a != events || b != events {
				t.Fatalf("%x: %d and %d events, want %d", p, a, b, events)
			}
			k := keys.Key{Kind: r.IntN(28) - 3, Sign: rune(r.Int32()), N: int(r.Int64())}
			want := m.key(k)
			if e, f := s.Key(k), again.Key(k); e != want || f != want {
				t.Fatalf("%+v: %d and %d, want %d", k, e, f, want)
			}
			m.compare(t, string(p), s)
			if !same(s, again) {
				t.Fatalf("%x: another session", p)
			}
			out := string(m.out())
			checkOut(t, string(p), s, out)
			checkOut(t, string(p), again, out)
		}
	}
}

// parsed is the report of the only record that was sent.
func parsed(t *testing.T, mode int, out []byte) entry.Report {
	t.Helper()
	pieces := slices.Collect(host.Pieces(out, mode == extended))
	if len(pieces) != 1 {
		t.Fatalf("%x: %d records", out, len(pieces))
	}
	report, e := entry.Parse(pieces[0].Data)
	if e != api.OK {
		t.Fatalf("%x: %d", out, e)
	}
	return report
}

func withoutNulls(p []byte) []byte {
	return slices.DeleteFunc(slices.Clone(p), func(b byte) bool { return b == 0 })
}

// P6: a screen that was read can be written again, into another session.
func TestReadAndWritten(t *testing.T) {
	r := newRandom(6)
	for i := range 200 {
		mode := 1 + i%2
		c := usual()
		c.Model = 2 + i%4
		s, other := newSession(t, c), newSession(t, c)
		agreed := []byte([]string{"", toBasic, toExt}[mode])
		s.Bytes(agreed)
		other.Bytes(agreed)
		for range 1 + r.IntN(5) {
			s.Bytes([]byte(inMode(mode, randomRecord(r))))
			s.Key(randomKey(r))
		}
		// In the reply mode 2 all display attributes are sent.
		s.Bytes([]byte(inMode(mode, "\xf3\x00\x05\x09\x00\x02")))
		s.Out()
		s.Bytes([]byte(inMode(mode, "\xf2")))
		pieces := slices.Collect(host.Pieces(s.Out(), mode == extended))
		if len(pieces) != 1 {
			t.Fatal(pieces)
		}
		record, e := entry.Replay(pieces[0].Data, s.View().State.Alt)
		if e != api.OK {
			t.Fatal(e)
		}
		other.Bytes([]byte(inMode(mode, randomRecord(r))))
		other.Bytes([]byte(inMode(mode, string(record))))
		if a, b := s.Screen(), other.Screen(); !a.Same(b) {
			t.Fatalf("%d of %x: the screens differ at %d: %v, %v", i, record[:40], b.Diff(a), a.At(b.Diff(a)[0]), b.At(b.Diff(a)[0]))
		}
	}
}

// hear lets a machine hear what a session has sent, and returns what it answers.
func hear(t *testing.T, o *option.Machine, out []byte) []byte {
	t.Helper()
	var answers []byte
	for _, said := range host.Said(out) {
		if said.Verb < 0xfb {
			continue
		}
		l, e := o.Hear(said.Verb, said.Option)
		if e != api.OK || len(l) > 1 {
			t.Fatalf("%v: %v, %d", said, l, e)
		}
		for _, m := range l {
			answers = append(answers, m.Bytes()...)
		}
	}
	return answers
}

// P7: a session and a host that follows the rules become quiet and agree, whatever is asked, also in the midst of it.
func TestNegotiationEnds(t *testing.T) {
	r := newRandom(7)
	options := []byte{0, 0x18, 0x19, 0x28, 1, 3}
	for range 500 {
		c := usual()
		c.Link.Extended = r.IntN(2) == 0
		s, o := newSession(t, c), option.New(options[:r.IntN(7)], options[:r.IntN(7)])
		var toUs, toHost []byte
		asked := 10
		for rounds := 0; ; rounds++ {
			for asked > 0 && r.IntN(3) > 0 {
				asked--
				l, _ := o.Ask(r.IntN(2), pick(r, options...), r.IntN(3) > 0)
				for _, m := range l {
					toUs = append(toUs, m.Bytes()...)
				}
				own, _ := s.Options().Ask(r.IntN(2), pick(r, options...), r.IntN(3) > 0)
				for _, m := range own {
					toHost = append(toHost, m.Bytes()...)
				}
			}
			if len(toUs) == 0 && len(toHost) == 0 && asked == 0 {
				break
			}
			if rounds > 100 {
				t.Fatal("there is no end")
			}
			s.Bytes(toUs)
			toUs = hear(t, o, toHost)
			toHost = s.Out()
		}
		for _, code := range options {
			if !s.Options().Quiet() || !o.Quiet() || s.Options().On(option.Us, code) != o.On(option.Him, code) || s.Options().On(option.Him, code) != o.On(option.Us, code) {
				t.Fatalf("option %x: %v and %v, %v and %v", code, s.Options().On(option.Us, code), o.On(option.Him, code), s.Options().On(option.Him, code), o.On(option.Us, code))
			}
		}
	}
}

// P7: two sessions that hear each other become quiet, though the first of them was asked by someone else.
func TestTwoTerminals(t *testing.T) {
	r := newRandom(8)
	for range 300 {
		a, b := newSession(t, usual()), newSession(t, usual())
		p := ""
		for range 1 + r.IntN(5) {
			p += pick(r, toBasic, toExt, doExt, sendDev, deviceIs, funcsIs, noFuncsIs, "text", "\xff\xfb\x28", "\xff\xfa\x28\x03\x07\x02\x04\xff\xf0", "\xff\xfa\x28\x03\x07\x02\xff\xf0")
		}
		a.Bytes([]byte(p))
		for rounds := 0; ; rounds++ {
			out := a.Out()
			if len(out) == 0 {
				break
			}
			if rounds > 50 {
				t.Fatalf("%x: there is no end: %x", p, out)
			}
			b.Bytes(out)
			a, b = b, a
		}
	}
}

// P9: what is sent is bounded by the input, and by the screen for each read.
func TestBounded(t *testing.T) {
	r := newRandom(9)
	for range 300 {
		c := usual()
		c.Model = 2 + r.IntN(4)
		s := newSession(t, c)
		in, out, pressed := 0, 0, 0
		for range 60 {
			p := randomPart(r)
			s.Bytes([]byte(p))
			in += len(p)
			s.Key(randomKey(r))
			pressed++
			out += len(s.Out())
		}
		// A read, doubled, with a header and an end; an answer to a name that is asked for; and a response to a record.
		read := uint64(2*(3+11*api.MaxCells) + 12)
		if bound := s.Tally().Get("reads")*read + uint64(in*20); uint64(out) > bound {
			t.Fatalf("%d bytes are sent for %d, want at most %d", out, in, bound)
		}
	}
}

// The parts by chance are of every kind, so that the tests above are worth something.
func TestParts(t *testing.T) {
	r := newRandom(10)
	m := newMachine(t, usual())
	m.bytes([]byte(toExt))
	count := map[int]int{}
	for range 3000 {
		for e := range m.line.Take([]byte(randomPart(r))) {
			count[e.Kind]++
			m.event(e)
		}
	}
	for kind := link.Screen; kind <= link.Bad; kind++ {
		if count[kind] < 10 {
			t.Error(fmt.Sprint("too few of the kind ", kind, ": ", count))
		}
	}
}
