package order_test

import (
	"bytes"
	"math/rand"
	"slices"
	"testing"

	"vitrine/api"
	"vitrine/attr"
	"vitrine/order"
)

// P16.1: the document's example, and nothing at all.
func TestParse(t *testing.T) {
	expect(t, []byte("\x11\x40\x40\x1d\x60\xc1"),
		[]order.Op{{Kind: order.SBA}, {Kind: order.SF, FA: 0x60}, text("\xc1")}, 6, api.OK)
	for _, p := range [][]byte{nil, {}, make([]byte, 0, 4)} {
		expect(t, p, nil, 0, api.OK)
	}
	expect(t, []byte("\x11\x11\x12")[:0], nil, 0, api.OK)
}

// P16.1: each order alone and behind each other one, with texts at the beginning, between them and at the end.
func TestOrdersBehindEachOther(t *testing.T) {
	all := append(coded(), received()...)
	for _, a := range all {
		expect(t, []byte(a.raw), []order.Op{a.op}, len(a.raw), api.OK)
		for _, b := range all {
			for places := range 8 {
				var p []byte
				var want []order.Op
				put := func(raw string, o order.Op) {
					p = append(p, raw...)
					want = append(want, o)
				}
				for i, s := range []string{"A", "\x00\x3d\xff", "\xc1\xc2"} {
					if places>>i&1 == 1 {
						put(s, text(s))
					}
					if i < 2 {
						put([]element{a, b}[i].raw, []element{a, b}[i].op)
					}
				}
				expect(t, p, want, len(p), api.OK)
			}
		}
	}
}

// P16.1: every byte alone is a text, an order, or an order that is incomplete.
func TestSingleBytes(t *testing.T) {
	for b := range 256 {
		p := []byte{byte(b)}
		switch {
		case b == 0x05 || b == 0x13:
			expect(t, p, []order.Op{{Kind: b}}, 1, api.OK)
		case isOrder(byte(b)):
			expect(t, p, nil, 0, api.ErrShort)
		default:
			expect(t, p, []order.Op{{Text: p}}, 1, api.OK)
		}
	}
}

// P16.1: a text is as long as possible, of all bytes that do not begin an order.
func TestLongTexts(t *testing.T) {
	var all []byte
	for b := range 256 {
		if !isOrder(byte(b)) {
			all = append(all, byte(b))
		}
	}
	if len(all) != 246 {
		t.Fatalf("%d bytes of texts", len(all))
	}
	expect(t, all, []order.Op{{Text: all}}, 246, api.OK)
	long := bytes.Repeat(all, 5000)
	expect(t, long, []order.Op{{Text: long}}, len(long), api.OK)
	p := slices.Concat(long, []byte{0x13}, long, []byte{0x11})
	expect(t, p, []order.Op{{Text: long}, {Kind: order.IC}, {Text: long}}, len(p)-1, api.ErrShort)
	expect(t, bytes.Repeat([]byte("\x13\x05A"), 50000),
		slices.Repeat([]order.Op{{Kind: order.IC}, {Kind: order.PT}, text("A")}, 50000), 150000, api.OK)
}

// P16.1: an order that is incomplete after each of its bytes, alone, behind a text, and behind an order.
func TestIncompleteOrders(t *testing.T) {
	for _, c := range append(coded(), received()...) {
		for length := 1; length < len(c.raw); length++ {
			cut := c.raw[:length]
			expect(t, []byte(cut), nil, 0, api.ErrShort)
			expect(t, []byte("AB"+cut), []order.Op{text("AB")}, 2, api.ErrShort)
			expect(t, []byte("\x1d\x3c"+cut), []order.Op{{Kind: order.SF, FA: 0x3c}}, 2, api.ErrShort)
			// The bytes that are missing are beyond the end, though in the same memory.
			expect(t, []byte(c.raw)[:length], nil, 0, api.ErrShort)
		}
	}
}

// P16.1: all codes of GE, and of RA with and without a graphic escape.
func TestCodes(t *testing.T) {
	for b := range 256 {
		c := byte(b)
		for _, v := range []element{
			{"\x08", order.Op{Kind: order.GE, Code: c}},
			{"\x3c\x40\xc1", order.Op{Kind: order.RA, Addr: 1, Code: c}},
			{"\x3c\x40\xc1\x08", order.Op{Kind: order.RA, Addr: 1, Code: c, Graph: true}},
		} {
			p := append([]byte("A"+v.raw), c, 'B')
			switch {
			case v.op.Kind == order.RA && !v.op.Graph && c == 0x08:
				expect(t, p, []order.Op{text("A"), {Kind: order.RA, Addr: 1, Code: 'B', Graph: true}}, len(p), api.OK)
			case isOrder(c):
				expect(t, p, []order.Op{text("A")}, 1, api.ErrOrder)
			default:
				expect(t, p, []order.Op{text("A"), v.op, text("B")}, len(p), api.OK)
			}
		}
	}
}

// P16.1: all addresses of 12 and 14 bits, and those whose bits are invalid.
func TestAddresses(t *testing.T) {
	for i := range 65536 {
		a, b := byte(i>>8), byte(i)
		n := wantAddress(a, b)
		for _, c := range []struct {
			kind byte
			rest []byte
			op   order.Op
		}{
			{0x11, nil, order.Op{Kind: order.SBA, Addr: n}},
			{0x12, nil, order.Op{Kind: order.EUA, Addr: n}},
			{0x3c, []byte{0xc4}, order.Op{Kind: order.RA, Addr: n, Code: 0xc4}},
			{0x3c, []byte{0x08, 0xc4}, order.Op{Kind: order.RA, Addr: n, Code: 0xc4, Graph: true}},
		} {
			p := append([]byte{c.kind, a, b}, c.rest...)
			l, used, e := order.All(p)
			if n < 0 {
				if len(l) != 0 || used != 0 || e != api.ErrAddr {
					t.Fatalf("All(%x) is %v, %d, %d", p, l, used, e)
				}
			} else if !sameOps(l, []order.Op{c.op}) || used != len(p) || e != api.OK {
				t.Fatalf("All(%x) is %v, %d, %d", p, l, used, e)
			}
		}
	}
}

// P16.1: all extended attributes of SA, SFE and MF, and all that are none.
func TestAttributes(t *testing.T) {
	for i := range 65536 {
		kind, value := byte(i>>8), byte(i)
		pairs := []attr.Pair{{Type: kind, Value: value}}
		for _, c := range []element{
			{"\x28", order.Op{Kind: order.SA, Pairs: pairs}},
			{"\x29\x01", order.Op{Kind: order.SFE, Pairs: pairs}},
			{"\x2c\x01", order.Op{Kind: order.MF, Pairs: pairs}},
		} {
			p := append([]byte(c.raw), kind, value)
			l, used, e := order.All(p)
			if !knownPair(kind, value) {
				if len(l) != 0 || used != 0 || e != api.ErrOrder {
					t.Fatalf("All(%x) is %v, %d, %d", p, l, used, e)
				}
			} else if !sameOps(l, []order.Op{c.op}) || used != len(p) || e != api.OK {
				t.Fatalf("All(%x) is %v, %d, %d", p, l, used, e)
			}
		}
	}
}

// P16.1: SFE and MF of every number, complete, with one that is invalid, and with one byte or one attribute less than it says.
func TestNumbersOfAttributes(t *testing.T) {
	for _, kind := range []int{order.SFE, order.MF} {
		for count := range 256 {
			p := append([]byte{byte(kind), byte(count)}, bytes.Repeat([]byte{0x41, 0xf2}, count)...)
			pairs := slices.Repeat([]attr.Pair{{Type: 0x41, Value: 0xf2}}, count)
			expect(t, append(bytes.Clone(p), "A"...), []order.Op{{Kind: kind, Pairs: pairs}, text("A")}, len(p)+1, api.OK)
			if count == 0 {
				continue
			}
			expect(t, p[:len(p)-1], nil, 0, api.ErrShort)
			expect(t, p[:len(p)-2], nil, 0, api.ErrShort)
			for _, place := range []int{0, count / 2, count - 1} {
				bad := bytes.Clone(p)
				bad[2+2*place+1] = 0xf3
				expect(t, bad, nil, 0, api.ErrOrder)
				expect(t, bad[:len(bad)-1], nil, 0, api.ErrShort)
			}
		}
	}
}

// P16.1: of several errors the one that is found first counts, and what stood before it is returned.
func TestSeveralErrors(t *testing.T) {
	for _, c := range []struct {
		raw   string
		fault api.Errno
	}{
		{"\x11\x80\x00\x11\x40", api.ErrAddr},
		{"\x11\x40", api.ErrShort},
		{"\x11\x80", api.ErrShort},
		{"\x12\xbf", api.ErrShort},
		{"\x12\xbf\xbf\x08\x11", api.ErrAddr},
		{"\x08\x11\x80\x00", api.ErrOrder},
		{"\x28\x99\x00\x11\x80\x00", api.ErrOrder},
		{"\x28\x99", api.ErrShort},
		{"\x29\x02\x99\x99\x41", api.ErrShort},
		{"\x29\x02\x99\x99\x11\x80", api.ErrOrder},
		{"\x2c\x01\x41\xf3\x08\x08", api.ErrOrder},
		{"\x3c\x80", api.ErrShort},
		{"\x3c\x80\x00", api.ErrAddr},
		{"\x3c\x80\x00\x08", api.ErrAddr},
		{"\x3c\x80\x00\x11", api.ErrAddr},
		{"\x3c\xbf\xff\x08\x11", api.ErrAddr},
		{"\x3c\x40\x40", api.ErrShort},
		{"\x3c\x40\x40\x08", api.ErrShort},
		{"\x3c\x40\x40\x11", api.ErrOrder},
		{"\x3c\x40\x40\x08\x08", api.ErrOrder},
		{"\x3c\x40\x40\x3c\x80\x00", api.ErrOrder},
		{"\x1d", api.ErrShort},
		{"\x08", api.ErrShort},
		{"\x29", api.ErrShort},
		{"\x2c\xff", api.ErrShort},
	} {
		expect(t, []byte(c.raw), nil, 0, c.fault)
		expect(t, []byte("A\x13B" + c.raw + "C\x13" + c.raw)[:3+len(c.raw)],
			[]order.Op{text("A"), {Kind: order.IC}, text("B")}, 3, c.fault)
		expect(t, []byte("\x05"+c.raw), []order.Op{{Kind: order.PT}}, 1, c.fault)
	}
	expect(t, []byte("\x11\x80\x00A\x08\x11"), nil, 0, api.ErrAddr)
	expect(t, []byte("\x08\x11A\x11\x80\x00"), nil, 0, api.ErrOrder)
}

// P16.1: bytes of all kinds, and all short ones of the kinds that matter, as read forward byte by byte.
func TestScatteredBytes(t *testing.T) {
	r := rand.New(rand.NewSource(16))
	for i := range 60000 {
		p := scatter(r, i%24)
		l, used, e := wantAll(p)
		expect(t, p, l, used, e)
	}
	const few = "\x05\x08\x11\x1d\x28\x29\x3c\x00\x01\x41\x80\xf1"
	for i := range len(few) * len(few) * len(few) * len(few) * len(few) {
		p := make([]byte, 0, 5)
		for n := i; len(p) < 5; n /= len(few) {
			p = append(p, few[n%len(few)])
		}
		l, used, e := wantAll(p)
		if got, n, fault := order.All(p); !sameOps(got, l) || n != used || fault != e {
			t.Fatalf("All(%x) is %v, %d, %d, want %v, %d, %d", p, got, n, fault, l, used, e)
		}
	}
}

// P16.1: an iterator that is stopped after each element, also at the error, yields nothing more, and yields all when ranged over again.
func TestParseStopped(t *testing.T) {
	p := []byte("A\x11\x40\xc1B\x29\x01\x42\xf2\x13\x08\x11C")
	want := []order.Op{text("A"), {Kind: order.SBA, Addr: 1}, text("B"),
		{Kind: order.SFE, Pairs: []attr.Pair{{Type: 0x42, Value: 0xf2}}}, {Kind: order.IC}, {}}
	each := order.Parse(p)
	for stop := 1; stop <= len(want)+1; stop++ {
		var got []order.Op
		for o, e := range each {
			got = append(got, o)
			if (e != api.OK) != (len(got) == len(want)) {
				t.Errorf("element %d has the error %d", len(got), e)
			}
			if len(got) == stop {
				break
			}
		}
		if !sameOps(got, want[:min(stop, len(want))]) {
			t.Errorf("stopped after %d: %v", stop, got)
		}
	}
	calls := 0
	each(func(order.Op, api.Errno) bool {
		calls++
		return calls < 2
	})
	if calls != 2 {
		t.Errorf("%d elements after a stop at the second", calls)
	}
}
