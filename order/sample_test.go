package order_test

import (
	"bytes"
	"math/rand"
	"slices"
	"testing"

	"vitrine/api"
	"vitrine/attr"
	"vitrine/order"
)

// element is an order as bytes and as an Op, both written out by hand.
type element struct {
	raw string
	op  order.Op
}

// coded are orders whose bytes are those that Bytes returns.
func coded() []element {
	pair := func(kind, value byte) attr.Pair { return attr.Pair{Type: kind, Value: value} }
	many := bytes.Repeat([]byte{0x42, 0xf3}, 255)
	return []element{
		{"\x05", order.Op{Kind: order.PT}},
		{"\x13", order.Op{Kind: order.IC}},
		{"\x08\xc5", order.Op{Kind: order.GE, Code: 0xc5}},
		{"\x08\x00", order.Op{Kind: order.GE}},
		{"\x11\x40\x40", order.Op{Kind: order.SBA}},
		{"\x11\xc1\xd1", order.Op{Kind: order.SBA, Addr: 81}},
		{"\x11\x5d\x7f", order.Op{Kind: order.SBA, Addr: 1919}},
		{"\x12\x7f\x7f", order.Op{Kind: order.EUA, Addr: 4095}},
		{"\x12\x40\xc1", order.Op{Kind: order.EUA, Addr: 1}},
		{"\x1d\x60", order.Op{Kind: order.SF, FA: 0x60}},
		{"\x1d\x11", order.Op{Kind: order.SF, FA: 0x11}},
		{"\x1d\x00", order.Op{Kind: order.SF}},
		{"\x28\x42\xf1", order.Op{Kind: order.SA, Pairs: []attr.Pair{pair(0x42, 0xf1)}}},
		{"\x28\x00\x00", order.Op{Kind: order.SA, Pairs: []attr.Pair{pair(0, 0)}}},
		{"\x28\xc0\x11", order.Op{Kind: order.SA, Pairs: []attr.Pair{pair(0xc0, 0x11)}}},
		{"\x29\x00", order.Op{Kind: order.SFE}},
		{"\x29\x02\xc0\x60\x41\xf4", order.Op{Kind: order.SFE, Pairs: []attr.Pair{pair(0xc0, 0x60), pair(0x41, 0xf4)}}},
		{"\x29\xff" + string(many), order.Op{Kind: order.SFE, Pairs: slices.Repeat([]attr.Pair{pair(0x42, 0xf3)}, 255)}},
		{"\x2c\x00", order.Op{Kind: order.MF}},
		{"\x2c\x01\x43\xf1", order.Op{Kind: order.MF, Pairs: []attr.Pair{pair(0x43, 0xf1)}}},
		{"\x2c\x05\xc0\x05\xc0\x08\xc0\x13\x00\x00\x41\x00", order.Op{Kind: order.MF,
			Pairs: []attr.Pair{pair(0xc0, 5), pair(0xc0, 8), pair(0xc0, 0x13), pair(0, 0), pair(0x41, 0)}}},
		{"\x3c\x40\x50\xc4", order.Op{Kind: order.RA, Addr: 16, Code: 0xc4}},
		{"\x3c\x40\x50\x00", order.Op{Kind: order.RA, Addr: 16}},
		{"\x3c\x5d\x7f\x08\x85", order.Op{Kind: order.RA, Addr: 1919, Code: 0x85, Graph: true}},
		{"\x3c\x40\x40\x08\x00", order.Op{Kind: order.RA, Graph: true}},
	}
}

// received are orders with addresses that are not sent in this form.
func received() []element {
	return []element{
		{"\x11\x00\x51", order.Op{Kind: order.SBA, Addr: 81}},
		{"\x11\x3f\xff", order.Op{Kind: order.SBA, Addr: 16383}},
		{"\x11\x11\x12", order.Op{Kind: order.SBA, Addr: 4370}},
		{"\x12\x00\x00", order.Op{Kind: order.EUA}},
		{"\x12\xc0\x80", order.Op{Kind: order.EUA}},
		{"\x12\x41\x01", order.Op{Kind: order.EUA, Addr: 65}},
		{"\x3c\x08\x08\x40", order.Op{Kind: order.RA, Addr: 2056, Code: 0x40}},
		{"\x3c\x3c\x3c\x08\x40", order.Op{Kind: order.RA, Addr: 15420, Code: 0x40, Graph: true}},
	}
}

func text(s string) order.Op {
	return order.Op{Text: []byte(s)}
}

// isOrder lists the bytes of orders as the document does.
func isOrder(b byte) bool {
	return slices.Contains([]byte{0x05, 0x08, 0x11, 0x12, 0x13, 0x1d, 0x28, 0x29, 0x2c, 0x3c}, b)
}

// wantNames lists the names as the document does.
func wantNames() map[int]string {
	return map[int]string{0: "Text", 5: "PT", 8: "GE", 0x11: "SBA", 0x12: "EUA", 0x13: "IC",
		0x1d: "SF", 0x28: "SA", 0x29: "SFE", 0x2c: "MF", 0x3c: "RA"}
}

// knownPair lists the extended attributes as the document does.
func knownPair(kind, value byte) bool {
	switch kind {
	case 0x00:
		return value == 0
	case 0x41:
		return slices.Contains([]byte{0, 0xf0, 0xf1, 0xf2, 0xf4, 0xf8}, value)
	case 0x42:
		return slices.Contains([]byte{0, 0xf1, 0xf2, 0xf3, 0xf4, 0xf5, 0xf6, 0xf7}, value)
	case 0x43:
		return slices.Contains([]byte{0, 0xf1}, value)
	}
	return kind == 0xc0
}

// wantAddress is the number of an address of 12 or 14 bits, or -1.
func wantAddress(a, b byte) int {
	switch a / 64 {
	case 0:
		return int(a)*256 + int(b)
	case 1, 3:
		return int(a)%64*64 + int(b)%64
	}
	return -1
}

func sameOp(a, b order.Op) bool {
	return a.Kind == b.Kind && a.Addr == b.Addr && a.Code == b.Code && a.Graph == b.Graph && a.FA == b.FA &&
		slices.Equal(a.Pairs, b.Pairs) && bytes.Equal(a.Text, b.Text)
}

func sameOps(a, b []order.Op) bool {
	return slices.EqualFunc(a, b, sameOp)
}

// expect compares All and Parse with what they should answer.
func expect(t *testing.T, p []byte, want []order.Op, used int, fault api.Errno) {
	t.Helper()
	l, n, e := order.All(p)
	if !sameOps(l, want) || n != used || e != fault {
		t.Fatalf("All(%.80x) is %v, %d, %d, want %v, %d, %d", p, l, n, e, want, used, fault)
	}
	var yielded []order.Op
	last := api.OK
	for o, e := range order.Parse(p) {
		if last != api.OK {
			t.Fatalf("Parse(%.80x) goes on after the error %d", p, last)
		}
		last = e
		if e == api.OK {
			yielded = append(yielded, o)
		} else if !sameOp(o, order.Op{}) {
			t.Fatalf("Parse(%.80x) yields %v beside the error %d", p, o, e)
		}
	}
	if !sameOps(yielded, want) || last != fault {
		t.Fatalf("Parse(%.80x) is %v, %d, want %v, %d", p, yielded, last, want, fault)
	}
}

// reader reads forward, a byte at a time, and remembers the first fault that it meets.
type reader struct {
	p     []byte
	n     int
	fault api.Errno
}

func (r *reader) next() byte {
	if r.fault == api.OK && r.n >= len(r.p) {
		r.fault = api.ErrShort
	}
	if r.fault != api.OK {
		return 0
	}
	r.n++
	return r.p[r.n-1]
}

func (r *reader) refuse(bad bool, e api.Errno) {
	if bad && r.fault == api.OK {
		r.fault = e
	}
}

func (r *reader) address() int {
	a, b := r.next(), r.next()
	r.refuse(wantAddress(a, b) < 0, api.ErrAddr)
	return wantAddress(a, b)
}

func (r *reader) code() byte {
	c := r.next()
	r.refuse(isOrder(c), api.ErrOrder)
	return c
}

// pairs checks the attributes when all of them are there.
func (r *reader) pairs(count int) []attr.Pair {
	var l []attr.Pair
	for range count {
		l = append(l, attr.Pair{Type: r.next(), Value: r.next()})
	}
	for _, p := range l {
		r.refuse(!knownPair(p.Type, p.Value), api.ErrOrder)
	}
	return l
}

func (r *reader) op() order.Op {
	o := order.Op{Kind: int(r.next())}
	switch o.Kind {
	case 0x05, 0x13:
	case 0x08:
		o.Code = r.code()
	case 0x11, 0x12:
		o.Addr = r.address()
	case 0x1d:
		o.FA = r.next()
	case 0x28:
		o.Pairs = r.pairs(1)
	case 0x29, 0x2c:
		o.Pairs = r.pairs(int(r.next()))
	case 0x3c:
		o.Addr = r.address()
		if r.fault == api.OK && r.n < len(r.p) && r.p[r.n] == 0x08 {
			o.Graph = true
			r.n++
		}
		o.Code = r.code()
	}
	return o
}

// wantAll reads with the reader.
func wantAll(p []byte) ([]order.Op, int, api.Errno) {
	var l []order.Op
	r := &reader{p: p}
	for r.n < len(p) {
		start := r.n
		if !isOrder(p[start]) {
			for r.n < len(p) && !isOrder(p[r.n]) {
				r.n++
			}
			l = append(l, order.Op{Text: p[start:r.n]})
			continue
		}
		o := r.op()
		if r.fault != api.OK {
			return l, start, r.fault
		}
		l = append(l, o)
	}
	return l, r.n, api.OK
}

// scatter returns bytes of which many are those of orders, of numbers and of attributes.
func scatter(r *rand.Rand, length int) []byte {
	const common = "\x05\x08\x11\x12\x13\x1d\x28\x29\x2c\x3c\x00\x01\x02\x40\x41\x42\x43\xc0\xc1\xf0\xf1\xf2\x80"
	p := make([]byte, length)
	for i := range p {
		p[i] = common[r.Intn(len(common))]
		if r.Intn(8) == 0 {
			p[i] = byte(r.Intn(256))
		}
	}
	return p
}
