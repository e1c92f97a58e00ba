package order_test

import (
	"bytes"
	"maps"
	"math"
	"math/rand"
	"slices"
	"testing"

	"vitrine/api"
	"vitrine/attr"
	"vitrine/order"
)

// junk gives fields that a kind does not use what would be an error where they are used.
func junk(o order.Op) order.Op {
	bad := order.Op{Kind: o.Kind, Addr: -1, Code: 0x11, Graph: true, FA: 0x3c,
		Pairs: slices.Repeat([]attr.Pair{{Type: 0x99}}, 300), Text: []byte{0x11}}
	switch o.Kind {
	case order.Text:
		bad.Text = o.Text
	case order.GE:
		bad.Code = o.Code
	case order.SBA, order.EUA:
		bad.Addr = o.Addr
	case order.RA:
		bad.Addr, bad.Code, bad.Graph = o.Addr, o.Code, o.Graph
	case order.SF:
		bad.FA = o.FA
	case order.SA, order.SFE, order.MF:
		bad.Pairs = o.Pairs
	}
	return bad
}

func expectBytes(t *testing.T, o order.Op, want string, fault api.Errno) {
	t.Helper()
	for _, v := range []order.Op{o, junk(o)} {
		if p, e := v.Bytes(); string(p) != want || e != fault {
			t.Errorf("Bytes of %.200v is %x, %d, want %x, %d", v, p, e, want, fault)
		}
		if p, e := order.Bytes([]order.Op{v}); string(p) != want || e != fault {
			t.Errorf("Bytes of a list of %.200v is %x, %d, want %x, %d", v, p, e, want, fault)
		}
	}
}

// P16.2: each order as bytes, whatever is in the fields that it does not use.
func TestBytes(t *testing.T) {
	for _, c := range coded() {
		expectBytes(t, c.op, c.raw, api.OK)
	}
	for _, c := range []element{
		{"A", text("A")}, {"\x00\xff\x3d", text("\x00\xff\x3d")},
		{"\x11\x40\xc1", order.Op{Kind: order.SBA, Addr: 1}},
		{"\x12\xc1\xd1", order.Op{Kind: order.EUA, Addr: 81}},
		{"\x3c\x7f\x7f\x08\xff", order.Op{Kind: order.RA, Addr: 4095, Code: 0xff, Graph: true}},
	} {
		expectBytes(t, c.op, c.raw, api.OK)
	}
}

// P16.2: every kind, those that there are and those that there are not.
func TestBytesOfInvalidKinds(t *testing.T) {
	names := wantNames()
	kinds := []int{math.MinInt, math.MaxInt, -0x11, -256 + 0x11, 256, 256 + 0x11, 0x1100, 1<<32 + 0x11}
	for kind := -3; kind <= 300; kind++ {
		kinds = append(kinds, kind)
	}
	for _, kind := range kinds {
		if names[kind] != "" {
			continue
		}
		expectBytes(t, order.Op{Kind: kind}, "", api.ErrArg)
		expectBytes(t, order.Op{Kind: kind, Text: []byte("A"), Code: 0xc1, Pairs: []attr.Pair{{}}}, "", api.ErrArg)
	}
}

// P16.2: addresses inside and outside 0 to 4095, and their error before that of the code.
func TestBytesOfAddresses(t *testing.T) {
	for n := range 4096 {
		for _, o := range []order.Op{{Kind: order.SBA, Addr: n}, {Kind: order.EUA, Addr: n}, {Kind: order.RA, Addr: n, Code: 0x40}} {
			p, e := o.Bytes()
			if e != api.OK || wantAddress(p[1], p[2]) != n || p[1] < 0x40 || p[2] < 0x40 {
				t.Fatalf("Bytes of %v is %x, %d", o, p, e)
			}
			expect(t, p, []order.Op{o}, len(p), api.OK)
		}
	}
	for _, n := range []int{-1, 4096, -4096, 16383, 16384, 65536, 1 << 32, math.MinInt, math.MaxInt} {
		expectBytes(t, order.Op{Kind: order.SBA, Addr: n}, "", api.ErrAddr)
		expectBytes(t, order.Op{Kind: order.EUA, Addr: n}, "", api.ErrAddr)
		for _, graph := range []bool{false, true} {
			expectBytes(t, order.Op{Kind: order.RA, Addr: n, Code: 0x40, Graph: graph}, "", api.ErrAddr)
			expectBytes(t, order.Op{Kind: order.RA, Addr: n, Code: 0x11, Graph: graph}, "", api.ErrAddr)
		}
		expectBytes(t, order.Op{Kind: 1, Addr: n}, "", api.ErrArg)
	}
}

// P16.2: all codes of GE and RA, and all texts of one byte, or with one byte at the beginning, in the middle or at the end.
func TestBytesOfCodes(t *testing.T) {
	for b := range 256 {
		c := byte(b)
		ops := []order.Op{{Kind: order.GE, Code: c}, {Kind: order.RA, Addr: 1, Code: c}, {Kind: order.RA, Addr: 1, Code: c, Graph: true},
			{Text: []byte{c}}, {Text: []byte{c, 'A', 'B'}}, {Text: []byte{'A', c, 'B'}}, {Text: []byte{'A', 'B', c}}}
		raw := []string{"\x08" + string([]byte{c}), "\x3c\x40\xc1" + string([]byte{c}), "\x3c\x40\xc1\x08" + string([]byte{c})}
		for i, o := range ops {
			if isOrder(c) {
				expectBytes(t, o, "", api.ErrOrder)
			} else if i < len(raw) {
				expectBytes(t, o, raw[i], api.OK)
			} else {
				expectBytes(t, o, string(o.Text), api.OK)
			}
		}
		expectBytes(t, order.Op{Kind: order.SF, FA: c}, "\x1d"+string([]byte{c}), api.OK)
	}
	for _, empty := range [][]byte{nil, {}, make([]byte, 0, 4)} {
		expectBytes(t, order.Op{Text: empty}, "", api.ErrOrder)
	}
	long := bytes.Repeat([]byte("A"), 100000)
	expectBytes(t, order.Op{Text: long}, string(long), api.OK)
	expectBytes(t, order.Op{Text: append(long, 0x2c)}, "", api.ErrOrder)
}

// P16.2: all attributes, and any number of them; too many are so before one of them is invalid.
func TestBytesOfAttributes(t *testing.T) {
	for i := range 65536 {
		one := attr.Pair{Type: byte(i >> 8), Value: byte(i)}
		for kind, front := range map[int]string{order.SA: "\x28", order.SFE: "\x29\x01", order.MF: "\x2c\x01"} {
			p, e := order.Op{Kind: kind, Pairs: []attr.Pair{one}}.Bytes()
			want, fault := front+string([]byte{one.Type, one.Value}), api.OK
			if !knownPair(one.Type, one.Value) {
				want, fault = "", api.ErrOrder
			}
			if string(p) != want || e != fault {
				t.Fatalf("%02x: %x, %d", one, p, e)
			}
		}
	}
	good, bad := attr.Pair{Type: 0x41, Value: 0xf1}, attr.Pair{Type: 0x41, Value: 0xf3}
	for count := range 600 {
		l := slices.Repeat([]attr.Pair{good}, count)
		for kind, first := range map[int]string{order.SFE: "\x29", order.MF: "\x2c"} {
			if count > 255 {
				expectBytes(t, order.Op{Kind: kind, Pairs: l}, "", api.ErrLong)
				expectBytes(t, order.Op{Kind: kind, Pairs: slices.Repeat([]attr.Pair{bad}, count)}, "", api.ErrLong)
				continue
			}
			expectBytes(t, order.Op{Kind: kind, Pairs: l}, first+string([]byte{byte(count)})+string(bytes.Repeat([]byte{0x41, 0xf1}, count)), api.OK)
			for place := range min(count, 3) {
				wrong := slices.Clone(l)
				wrong[len(wrong)-1-place] = bad
				expectBytes(t, order.Op{Kind: kind, Pairs: wrong}, "", api.ErrOrder)
			}
		}
		if count != 1 {
			expectBytes(t, order.Op{Kind: order.SA, Pairs: l}, "", api.ErrOrder)
		}
	}
}

// P16.2: the encodings of a list one behind the other, or its first error, and what is parsed is encoded as it was.
func TestBytesOfLists(t *testing.T) {
	for _, l := range [][]order.Op{nil, {}} {
		if p, e := order.Bytes(l); len(p) != 0 || e != api.OK {
			t.Errorf("Bytes of nothing is %x, %d", p, e)
		}
	}
	var l []order.Op
	var want []byte
	for _, c := range coded() {
		l = append(l, c.op, text("A"), text("BC"))
		want = append(append(want, c.raw...), "ABC"...)
	}
	if p, e := order.Bytes(l); !bytes.Equal(p, want) || e != api.OK {
		t.Errorf("Bytes is %x, %d, want %x", p, e, want)
	}
	faults := map[api.Errno]order.Op{api.ErrArg: {Kind: 1}, api.ErrAddr: {Kind: order.SBA, Addr: 4096},
		api.ErrLong: {Kind: order.SFE, Pairs: make([]attr.Pair, 256)}, api.ErrOrder: {}}
	for first, a := range faults {
		for _, b := range faults {
			for _, l := range [][]order.Op{{a, b}, {text("A"), a, b}, {{Kind: order.IC}, text("A"), a, text("B"), b}, {text("A"), a}} {
				if p, e := order.Bytes(l); len(p) != 0 || e != first {
					t.Errorf("Bytes(%.80v) is %x, %d, want %d", l, p, e, first)
				}
			}
		}
	}
}

// P16.2: whatever is parsed is encoded and parsed again as the same, where its addresses have 12 bits.
func TestThereAndBack(t *testing.T) {
	r := rand.New(rand.NewSource(162))
	for i := range 20000 {
		l, _, _ := order.All(scatter(r, i%60))
		far := slices.ContainsFunc(l, func(o order.Op) bool { return o.Addr > 4095 })
		p, e := order.Bytes(l)
		if far {
			if e != api.ErrAddr || len(p) != 0 {
				t.Fatalf("Bytes(%v) is %x, %d", l, p, e)
			}
			continue
		}
		if e != api.OK {
			t.Fatalf("Bytes(%v) is %d", l, e)
		}
		expect(t, p, l, len(p), api.OK)
	}
}

// P16.2: which bytes begin an order, and the names of all kinds.
func TestIsAndName(t *testing.T) {
	for b := range 256 {
		if order.Is(byte(b)) != isOrder(byte(b)) {
			t.Errorf("Is(%02x) is %v", b, order.Is(byte(b)))
		}
	}
	names := wantNames()
	for kind := -300; kind <= 1000; kind++ {
		if got := order.Name(kind); got != names[kind] {
			t.Errorf("Name(%x) is %q, want %q", kind, got, names[kind])
		}
	}
	for _, kind := range []int{math.MinInt, math.MaxInt, 1 << 32, 1<<32 + 0x11, -1 << 40} {
		if got := order.Name(kind); got != "" {
			t.Errorf("Name(%x) is %q", kind, got)
		}
	}
	for kind, name := range map[int]string{order.Text: "Text", order.PT: "PT", order.GE: "GE", order.SBA: "SBA", order.EUA: "EUA",
		order.IC: "IC", order.SF: "SF", order.SA: "SA", order.SFE: "SFE", order.MF: "MF", order.RA: "RA"} {
		if names[kind] != name {
			t.Errorf("the constant of %s is %x", name, kind)
		}
	}
}

// P16.2: how many there are of each name, whatever else is in them; invalid kinds are not counted.
func TestCount(t *testing.T) {
	for _, c := range []struct {
		l    []order.Op
		want map[string]int
	}{
		{nil, nil}, {[]order.Op{}, nil},
		{[]order.Op{{Kind: 1}, {Kind: -1}, {Kind: 256 + 0x11}, {Kind: math.MaxInt}}, nil},
		{[]order.Op{{}}, map[string]int{"Text": 1}},
		{[]order.Op{text("A"), {Kind: order.SBA, Addr: -1}, text("B"), {Kind: 7}, {Kind: order.GE, Code: 8}, {Kind: order.SBA}, {}},
			map[string]int{"Text": 3, "SBA": 2, "GE": 1}},
		{[]order.Op{{Kind: order.PT}, {Kind: order.IC}, {Kind: order.SA}, {Kind: order.SF}, {Kind: order.SFE}, {Kind: order.MF}, {Kind: order.RA}, {Kind: order.EUA}},
			map[string]int{"PT": 1, "IC": 1, "SA": 1, "SF": 1, "SFE": 1, "MF": 1, "RA": 1, "EUA": 1}},
		{slices.Repeat([]order.Op{{Kind: order.MF}, {}, {Kind: order.MF}}, 1000), map[string]int{"MF": 2000, "Text": 1000}},
	} {
		if got := order.Count(c.l); !maps.Equal(got, c.want) {
			t.Errorf("Count(%.80v) is %v, want %v", c.l, got, c.want)
		}
	}
	// Each answer is a map of its own.
	l := []order.Op{text("A")}
	first := order.Count(l)
	first["Text"], first["PT"] = 9, 9
	if got := order.Count(l); !maps.Equal(got, map[string]int{"Text": 1}) {
		t.Errorf("Count after a change of its answer is %v", got)
	}
}
