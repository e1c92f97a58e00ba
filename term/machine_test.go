package term_test

import (
	"fmt"
	"math/rand/v2"
	"slices"
	"testing"

	"vitrine/api"
	"vitrine/keys"
	"vitrine/page"
	"vitrine/query"
	"vitrine/read"
	"vitrine/sfield"
	"vitrine/space"
	"vitrine/term"
	"vitrine/write"
)

// machine does by the layers below, step by step, what the chapter says of a terminal.
type machine struct {
	screen *space.Space
	board  *keys.Board
	page   *page.Page
	mode   int
	sent   []string // by the record or the key that is processed
	counts [6]uint64
}

// The places of the counters in names.
const (
	alarms = iota
	pressed
	reads
	records
	refused
	rejected
)

func newMachine(t *testing.T, model, number int) *machine {
	t.Helper()
	m := &machine{screen: newScreen(t, model, false, nil, 0), page: newPage(t, number)}
	m.board, _ = keys.New(m.screen, m.page)
	return m
}

func (m *machine) send(p []byte) {
	m.sent = append(m.sent, string(p))
	m.counts[reads]++
}

func (m *machine) host(record []byte) api.Errno {
	m.sent = nil
	m.counts[records]++
	e := m.run(record)
	if e != api.OK {
		m.counts[rejected]++
	}
	return e
}

func (m *machine) run(record []byte) api.Errno {
	r, e := write.Run(m.screen, record)
	if e != api.OK {
		return e
	}
	if r.Reset {
		m.mode = 0
	}
	if r.Restore {
		m.board.Restore()
	}
	if r.Alarm {
		m.counts[alarms]++
	}
	switch r.Command {
	case write.ReadBuffer, write.ReadModified, write.ReadAll:
		p, _ := read.For(m.screen, r.Command, m.board.AID(), m.mode)
		m.send(p)
	case write.Structured:
		return m.fields(r.Fields)
	}
	return api.OK
}

// fields parses no field before the one ahead of it is processed.
func (m *machine) fields(p []byte) api.Errno {
	for len(p) > 0 {
		if len(p) < 3 {
			return api.ErrShort
		}
		n := int(p[0])*256 + int(p[1])
		if n == 0 {
			n = len(p)
		}
		if n < 3 || n > len(p) {
			return api.ErrShort
		}
		a, e := sfield.Field{ID: p[2], Data: p[3:n]}.Act()
		if e != api.OK {
			return e
		}
		if e := m.act(a); e != api.OK {
			return e
		}
		p = p[n:]
	}
	return api.OK
}

func (m *machine) act(a sfield.Act) api.Errno {
	switch sfield.Name(a.Kind) {
	case "Query":
		m.send(query.All(m.screen.Model(), m.page))
	case "QueryList":
		m.send(query.List(a.Request, a.Codes, m.screen.Model(), m.page))
	case "Read":
		p, _ := read.For(m.screen, a.Command, m.board.AID(), m.mode)
		m.send(p)
	case "Erase":
		m.screen.Clear(a.Alt)
	case "Mode":
		m.mode = a.Mode
	case "Create", "Destroy":
		m.screen.Clear(false)
		m.mode = 0
	case "Outbound":
		return m.run(a.Record)
	}
	return api.OK
}

func (m *machine) key(k keys.Key) api.Errno {
	m.sent = nil
	m.counts[pressed]++
	gone, e := m.board.Press(k)
	if e != api.OK {
		m.counts[refused]++
	}
	if gone {
		p, _ := read.Modified(m.screen, m.board.AID(), m.mode)
		m.send(p)
	}
	return e
}

func (m *machine) state() term.State {
	return term.State{Model: m.screen.Model(), Page: m.page.Number(), Alt: m.screen.Alternate(), Cursor: m.screen.Cursor(),
		Lock: m.board.Lock(), Inserts: m.board.Inserts(), AID: m.board.AID(), Mode: m.mode}
}

// compare asks for all that can be asked of a terminal.
func (m *machine) compare(t *testing.T, what string, x *term.Term, sent []string, e, want api.Errno) {
	t.Helper()
	if e != want || !slices.Equal(sent, m.sent) {
		t.Fatalf("%s: %d, %.80q, want %d, %.80q", what, e, sent, want, m.sent)
	}
	checkState(t, what, x, m.state())
	checkScreen(t, what, x, m.screen)
	if got := counts(x); got != m.counts {
		t.Fatalf("%s: the counters %v are %v, want %v", what, names, got, m.counts)
	}
}

func pick[T any](r *rand.Rand, l ...T) T {
	return l[r.IntN(len(l))]
}

// randomOrders are mostly good ones, of small addresses, so that they meet.
func randomOrders(r *rand.Rand) string {
	l := ""
	for range r.IntN(8) {
		address := "\x40" + string([]byte{"\x40\xc1\xc2\xc3\xc4\xc9\x50\x5f"[r.IntN(8)]})
		l += pick(r, "\x11"+address, "\x11"+address, "\x1d\x40", "\x1d\xc1", "\x1d\x60", "\x1d\xf0", "\x1d\xc4\x6f\xc1", "\x1d\xe4\x40\xc1", "\x1d\x50", "\x29\x02\xc0\xc1\x42\xf2",
			"\x28\x42\xf4", "\x28\x00\x00", "\x08\xc5", "\x13", "\x13", "\x05", "\x12"+address, "\x3c"+address+"\x60", "\xc1\xc2", "\xc1\x00\xc3", "\x00\x00\x00", "\xf1")
		if r.IntN(25) == 0 {
			l += pick(r, "\x11\x7f\x7f", "\x28\x41\xf3", "\x2c\x00", "\x08\x11", "\x1d", "\x11\x40", "\x11\x80\x00")
		}
	}
	return l
}

func randomWrite(r *rand.Rand) string {
	command := pick(r, "\xf1", "\xf1", "\xf1", "\x01", "\xf5", "\x05", "\x7e", "\x0d")
	return command + string([]byte{byte(r.IntN(256))}) + randomOrders(r)
}

func randomField(r *rand.Rand) string {
	switch r.IntN(12) {
	case 0:
		return queryField
	case 1:
		return "\x00\x08\x01\xff\x03" + string([]byte{pick[byte](r, 0, 0, 0x40, 0x80), pick[byte](r, 0x80, 0x88, 0x99), byte(0x80 + r.IntN(9))})
	case 2, 3:
		return readField("\x06\x0e\x6e\xf2\xf6"[r.IntN(5)])
	case 4, 5:
		return modeField(byte(r.IntN(3)))
	case 6:
		return pick(r, eraseField, largeField, createField, destroyed, activated, activated)
	case 7:
		if r.IntN(3) > 0 {
			return activated
		}
		return bad[r.IntN(len(bad))].field
	case 8:
		return outbound(pick(r, "\x6f", "\x0f", "\x03", "\x03\xc7"))
	}
	return outbound(randomWrite(r))
}

func randomRecord(r *rand.Rand) string {
	switch r.IntN(12) {
	case 0:
		return pick(r, "\xf2", "\x02", "\xf6", "\x06", "\x6e", "\x0e")
	case 1:
		return pick(r, "\x6f", "\x0f", "\x03", "", "\x99", "\xf1\x02", "\xf1\xc3", "\xf1")
	case 2, 3, 4, 5:
		l := "\xf3"
		for range r.IntN(5) {
			l += randomField(r)
		}
		return l
	}
	return randomWrite(r)
}

// randomKey is any key; those that lock the keyboard until the host frees it are seldom.
func randomKey(r *rand.Rand) keys.Key {
	kind := r.IntN(24)
	if kind >= keys.Enter && kind <= keys.Clear && r.IntN(3) > 0 {
		kind = keys.Char
	}
	return keys.Key{Kind: kind, Sign: pick(r, 'A', 'b', '1', '.', ' ', '?', 'ä', '€', '\n'), N: pick(r, 1, 2, 3, 12, 24, 25, 0, 0x40, 0xc1, 0xf1, 0x11)}
}

// steps runs a script by chance on a terminal and the machine.
func steps(t *testing.T, r *rand.Rand, model, number, length int) {
	t.Helper()
	x, m := newTerm(t, model, number), newMachine(t, model, number)
	for range length {
		switch n := r.IntN(12); {
		case n < 4:
			record := []byte(randomRecord(r))
			want := m.host(record)
			l, e := x.Host(record)
			var sent []string
			for _, p := range l {
				sent = append(sent, string(p))
			}
			m.compare(t, fmt.Sprintf("%x", record), x, sent, e, want)
		case n < 10:
			k := randomKey(r)
			want := m.key(k)
			p, e := x.Key(k)
			var sent []string
			if p != nil {
				sent = []string{string(p)}
			}
			m.compare(t, fmt.Sprintf("%+v", k), x, sent, e, want)
		case n < 11:
			text := pick(r, "A1", "12-", "xyzäö", "A\nB", "")
			accepted, want := 0, api.OK
			for _, sign := range text {
				if want = m.key(keys.Key{Kind: keys.Char, Sign: sign}); want != api.OK {
					break
				}
				accepted++
			}
			types(t, x, text, accepted, want)
			m.compare(t, text, x, m.sent, want, want)
		case r.IntN(4) == 0:
			x = x.Copy()
			m.counts = [6]uint64{}
			m.compare(t, "a copy", x, m.sent, api.OK, api.OK)
		}
	}
}

// P23.3: for scripts by chance the terminal does what the layers specify, one by one.
func TestByChance(t *testing.T) {
	r := rand.New(rand.NewPCG(23, 3))
	for model := 2; model <= 5; model++ {
		for _, number := range pages {
			for range 4 {
				steps(t, r, model, number, 100)
			}
		}
	}
}

// P23.3 and P1: bytes and keys of any kind, which may mean nothing.
func TestAnyBytes(t *testing.T) {
	r := rand.New(rand.NewPCG(1, 23))
	for range 40 {
		x, m := newTerm(t, 2, 37), newMachine(t, 2, 37)
		for range 50 {
			record := make([]byte, r.IntN(20))
			for i := range record {
				record[i] = byte(r.IntN(256))
				if r.IntN(3) == 0 {
					record[i] = pick[byte](r, 0, 3, 4, 5, 0x11, 0x1d, 0x28, 0x40, 0x60, 0xf1, 0xf3, 0xf5, 0xff)
				}
			}
			if len(record) > 0 && r.IntN(2) == 0 {
				record[0] = pick[byte](r, 0xf1, 0xf3, 0xf5, 0x7e)
			}
			want := m.host(record)
			l, e := x.Host(record)
			var sent []string
			for _, p := range l {
				sent = append(sent, string(p))
			}
			m.compare(t, fmt.Sprintf("%x", record), x, sent, e, want)
			k := keys.Key{Kind: r.IntN(28) - 3, Sign: rune(r.Int32()), N: int(r.Int64())}
			want = m.key(k)
			p, e := x.Key(k)
			if e != want || (p != nil) != (m.sent != nil) {
				t.Fatalf("%+v: %x, %d, want %q, %d", k, p, e, m.sent, want)
			}
		}
	}
}

// P2: the same script on another terminal has the same answers.
func TestSameAgain(t *testing.T) {
	r := rand.New(rand.NewPCG(2, 23))
	x, y := newTerm(t, 4, 273), newTerm(t, 4, 273)
	for range 400 {
		record := []byte(randomRecord(r))
		first, e := x.Host(record)
		second, f := y.Host(record)
		k := randomKey(r)
		p, g := x.Key(k)
		q, h := y.Key(k)
		if e != f || g != h || !slices.EqualFunc(first, second, slices.Equal[[]byte]) || !slices.Equal(p, q) || !x.Same(y) || counts(x) != counts(y) {
			t.Fatalf("%x and %+v: %d, %d, want %d, %d", record, k, f, h, e, g)
		}
	}
}
