package write_test

import (
	"math/rand/v2"
	"testing"

	"vitrine/api"
	"vitrine/attr"
	"vitrine/order"
	"vitrine/space"
	"vitrine/write"
)

// machine executes orders on plain cells, as the chapter tells them.
type machine struct {
	cells   []api.Cell
	cursor  int
	n       int
	display [3]byte
	before  int // the kind of the preceding order, or -1
}

func machineOf(s *space.Space, n int) *machine {
	m := &machine{cursor: s.Cursor(), n: n, before: -1}
	for _, c := range s.All() {
		m.cells = append(m.cells, c)
	}
	return m
}

func (m *machine) next(n int) int {
	return (n + 1) % len(m.cells)
}

func (m *machine) char(code byte, graph bool) api.Cell {
	c := api.Cell{Char: code, High: m.display[0], Color: m.display[1], Set: m.display[2]}
	if graph {
		c.Set = 0xf1
	}
	return c
}

func (m *machine) set(c api.Cell) {
	m.cells[m.n] = c
	m.n = m.next(m.n)
}

// protected reports whether a position's field is protected; it goes back to its attribute.
func (m *machine) protected(n int) bool {
	for i := range m.cells {
		if c := m.cells[(n-i+len(m.cells))%len(m.cells)]; c.Attr {
			return c.FA&0x20 != 0
		}
	}
	return false
}

// up lists the positions from the buffer address up to another one, around the screen.
func (m *machine) up(to int) []int {
	l := []int{m.n}
	for n := m.next(m.n); n != to; n = m.next(n) {
		l = append(l, n)
	}
	return l
}

func extended(c api.Cell, pairs []attr.Pair) api.Cell {
	for _, p := range pairs {
		switch p.Type {
		case 0:
			c.High, c.Color, c.Set = 0, 0, 0
		case 0x41:
			c.High = p.Value
		case 0x42:
			c.Color = p.Value
		case 0x43:
			c.Set = p.Value
		case 0xc0:
			c.FA = p.Value & 0x3d
		}
	}
	return c
}

func (m *machine) tab() {
	if m.before == order.Text || m.before == order.GE {
		for n := m.n; n < len(m.cells) && !m.cells[n].Attr; n++ {
			m.cells[n].Char = 0
		}
	}
	from := m.n
	m.n = 0
	for n := from + 1; n < len(m.cells); n++ {
		if c := m.cells[n-1]; c.Attr && c.FA&0x20 == 0 && !m.cells[n].Attr {
			m.n = n
			return
		}
	}
}

// do executes an order, or returns its error.
func (m *machine) do(o order.Op) api.Errno {
	if o.Addr >= len(m.cells) {
		return api.ErrAddr
	}
	switch o.Kind {
	case order.Text:
		for _, code := range o.Text {
			m.set(m.char(code, false))
		}
	case order.GE:
		m.set(m.char(o.Code, true))
	case order.SBA:
		m.n = o.Addr
	case order.EUA:
		for _, n := range m.up(o.Addr) {
			if !m.cells[n].Attr && !m.protected(n) {
				m.cells[n].Char = 0
			}
		}
		m.n = o.Addr
	case order.RA:
		for _, n := range m.up(o.Addr) {
			m.cells[n] = m.char(o.Code, o.Graph)
		}
		m.n = o.Addr
	case order.SF:
		m.set(api.Cell{Attr: true, FA: o.FA & 0x3d})
	case order.SFE:
		m.set(extended(api.Cell{Attr: true}, o.Pairs))
	case order.MF:
		if !m.cells[m.n].Attr {
			return api.ErrOrder
		}
		m.set(extended(m.cells[m.n], o.Pairs))
	case order.SA:
		c := extended(m.char(0, false), o.Pairs)
		m.display = [3]byte{c.High, c.Color, c.Set}
	case order.IC:
		m.cursor = m.n
	case order.PT:
		m.tab()
	}
	m.before = o.Kind
	return api.OK
}

// randomPair is an extended attribute by chance.
func randomPair(r *rand.Rand) attr.Pair {
	pairs := []attr.Pair{{Type: 0}, {Type: 0x41, Value: 0xf4}, {Type: 0x42, Value: 0xf3}, {Type: 0x43, Value: 0xf1}, {Type: 0x41}, {Type: 0x42}, {Type: 0x43}}
	if r.IntN(3) == 0 {
		return attr.Pair{Type: 0xc0, Value: byte(r.IntN(256))}
	}
	return pairs[r.IntN(len(pairs))]
}

func randomPairs(r *rand.Rand, n int) []attr.Pair {
	var l []attr.Pair
	for range n {
		l = append(l, randomPair(r))
	}
	return l
}

// randomAddress is mostly near one of the ends of the screen, and seldom beyond.
func randomAddress(r *rand.Rand, cells int) int {
	switch r.IntN(12) {
	case 0:
		return r.IntN(cells)
	case 1, 2, 3:
		return cells - 1 - r.IntN(12)
	case 4:
		return min(4095, cells-1+r.IntN(3))
	}
	return r.IntN(30)
}

// randomOp is an order by chance. RA and EUA are seldom, since they take much away.
func randomOp(r *rand.Rand, cells int) order.Op {
	switch r.IntN(20) {
	case 0, 1, 2:
		text := make([]byte, 1+r.IntN(5))
		for i := range text {
			text[i] = 0x81 + byte(r.IntN(9))
		}
		return order.Op{Kind: order.Text, Text: text}
	case 3, 4:
		return order.Op{Kind: order.GE, Code: 0xc4}
	case 5, 6, 7:
		return order.Op{Kind: order.SBA, Addr: randomAddress(r, cells)}
	case 8:
		return order.Op{Kind: order.EUA, Addr: randomAddress(r, cells)}
	case 9:
		return order.Op{Kind: order.RA, Addr: randomAddress(r, cells), Code: 0x60, Graph: r.IntN(2) == 0}
	case 10, 11:
		return order.Op{Kind: order.SF, FA: byte(r.IntN(256))}
	case 12:
		return order.Op{Kind: order.SFE, Pairs: randomPairs(r, r.IntN(4))}
	case 13:
		return order.Op{Kind: order.MF, Pairs: randomPairs(r, r.IntN(4))}
	case 14, 15:
		return order.Op{Kind: order.SA, Pairs: randomPairs(r, 1)}
	case 16:
		return order.Op{Kind: order.IC}
	}
	return order.Op{Kind: order.PT}
}

// randomOps joins no two texts, which would be one when they are read.
func randomOps(r *rand.Rand, cells int) []order.Op {
	var l []order.Op
	for range r.IntN(14) {
		o := randomOp(r, cells)
		if o.Kind == order.Text && len(l) > 0 && l[len(l)-1].Kind == order.Text {
			continue
		}
		l = append(l, o)
	}
	return l
}

// doAll executes orders up to the first error, and returns how many there were.
func (m *machine) doAll(l []order.Op) (int, api.Errno) {
	for i, o := range l {
		if e := m.do(o); e != api.OK {
			return i, e
		}
	}
	return len(l), api.OK
}

// compare sees that the screen is that of the machine.
func (m *machine) compare(t *testing.T, l []order.Op, s *space.Space) {
	t.Helper()
	for n, c := range s.All() {
		if c != m.cells[n] {
			t.Fatalf("%v: at %d there is %v, want %v", l, n, c, m.cells[n])
		}
	}
	if s.Cursor() != m.cursor || s.Size().Cells() != len(m.cells) {
		t.Fatalf("%v: the cursor is at %d, want %d", l, s.Cursor(), m.cursor)
	}
}

// P17.2: orders by chance, on screens by chance, one record behind the other.
func TestRandomOrders(t *testing.T) {
	r := rand.New(rand.NewPCG(10, 17))
	for _, every := range []int{0, 3, 9, 60, 500} {
		for model := 2; model <= 5; model++ {
			s := newSpace(t, model, model%2 == 1)
			for round := range 150 {
				if round%5 == 0 {
					scatter(r, s, every)
				}
				l := randomOps(r, s.Size().Cells())
				p, errno := order.Bytes(l)
				if errno != api.OK {
					t.Fatal(errno)
				}
				n := randomAddress(r, s.Size().Cells()) % s.Size().Cells()
				m := machineOf(s, n)
				wantPieces, wantE := m.doAll(l)
				at, pieces, e := write.Orders(s, p, n)
				if at != m.n || pieces != wantPieces || e != wantE {
					t.Fatalf("%v from %d: %d, %d, %d, want %d, %d, %d", l, n, at, pieces, e, m.n, wantPieces, wantE)
				}
				m.compare(t, l, s)
			}
		}
	}
}

// P17.2 and P2: Run does with the orders what they do alone, from the cursor or from 0, and the same each time.
func TestRandomRecords(t *testing.T) {
	r := rand.New(rand.NewPCG(17, 2))
	for round := range 600 {
		c := commands()[1+r.IntN(3)]
		s := newSpace(t, 2+r.IntN(4), round%2 == 0)
		scatter(r, s, 20)
		l := randomOps(r, 1920)
		orders, _ := order.Bytes(l)
		record := append([]byte{c.bytes[r.IntN(2)], byte(r.IntN(256)) &^ 1}, orders...)
		again := s.Copy()
		base := s.Copy()
		if c.number != write.Write {
			base.Clear(c.number == write.EraseAlternate)
		}
		m := machineOf(base, base.Cursor())
		wantPieces, wantE := m.doAll(l)
		got, e := write.Run(s, record)
		if got.Command != c.number || got.Pieces != wantPieces || e != wantE || got.Fields != nil {
			t.Fatalf("%x: %+v, %d, want %d pieces, %d", record, got, e, wantPieces, wantE)
		}
		m.compare(t, l, s)
		write.Run(again, record)
		checkScreen(t, "again", again, s)
	}
}

// P1: whatever the bytes are, a record ends; with an error, all before it was executed.
func TestRandomBytes(t *testing.T) {
	r := rand.New(rand.NewPCG(1, 17))
	bytes := []byte("\x05\x08\x11\x12\x13\x1d\x28\x29\x2c\x3c\x00\x01\x02\x40\x41\x42\x43\xc0\xc1\xf1\xf2\x5d\x7f\x80\xff")
	for range 4000 {
		s := newSpace(t, 2+r.IntN(4), r.IntN(2) == 0)
		s.Place(r.IntN(1920))
		record := make([]byte, r.IntN(30))
		for i := range record {
			record[i] = bytes[r.IntN(len(bytes))]
		}
		if len(record) > 0 && r.IntN(2) == 0 {
			record[0] = 0xf1
		}
		base := s.Copy()
		got, e := write.Run(s, record)
		if len(record) < 2 || got.Command != write.Write {
			continue
		}
		l, _, parsed := order.All(record[2:])
		m := machineOf(base, base.Cursor())
		pieces, wantE := m.doAll(l)
		if wantE == api.OK {
			wantE = parsed
		}
		if got.Pieces != pieces || e != wantE {
			t.Fatalf("%x: %d, %d, want %d, %d", record, got.Pieces, e, pieces, wantE)
		}
		if record[1]&1 == 0 {
			m.compare(t, l, s)
		}
	}
}
