package attr_test

import (
	"bytes"
	"slices"
	"testing"

	"vitrine/api"
	"vitrine/attr"
)

// wantKnown lists the extended attributes as the document does.
func wantKnown(p attr.Pair) bool {
	switch p.Type {
	case 0x00:
		return p.Value == 0
	case 0x41:
		return bytes.IndexByte([]byte{0, 0xf0, 0xf1, 0xf2, 0xf4, 0xf8}, p.Value) >= 0
	case 0x42:
		return bytes.IndexByte([]byte{0, 0xf1, 0xf2, 0xf3, 0xf4, 0xf5, 0xf6, 0xf7}, p.Value) >= 0
	case 0x43:
		return bytes.IndexByte([]byte{0, 0xf1}, p.Value) >= 0
	}
	return p.Type == 0xc0
}

// each runs a check for every type with every value.
func each(check func(p attr.Pair)) {
	for kind := range 256 {
		for value := range 256 {
			check(attr.Pair{Type: byte(kind), Value: byte(value)})
		}
	}
}

// cells are attributes and characters, bare and with display attributes, also with fields that no screen has.
func cells() []api.Cell {
	return []api.Cell{
		{}, {Attr: true}, {Char: 0xc1},
		{Attr: true, FA: 0x3d, High: 0xf1, Color: 0xf2, Set: 0xf1},
		{Attr: true, FA: 0x20, Color: 0xf7}, {Attr: true, FA: 0x01, High: 0xf8},
		{Char: 0xc1, High: 0xf4, Color: 0xf1, Set: 0xf1}, {Char: 0x85, Set: 0xf1},
		{Char: 0xc1, FA: 0xff, High: 0x33, Color: 0x01, Set: 0x02}, {Char: 0x40, Attr: true, FA: 0xff},
	}
}

// P5.2: all pairs, those that are extended attributes and those that are not.
func TestCheck(t *testing.T) {
	count := 0
	each(func(p attr.Pair) {
		want := api.ErrOrder
		if wantKnown(p) {
			want = api.OK
			count++
		}
		if got := p.Check(); got != want {
			t.Errorf("%02x: Check is %d, want %d", p, got, want)
		}
	})
	if count != 256+6+8+2+1 {
		t.Errorf("%d extended attributes", count)
	}
}

// P5.2: every pair applied to all kinds of cells; what is invalid gives an empty cell.
func TestApply(t *testing.T) {
	for _, c := range cells() {
		each(func(p attr.Pair) {
			want, fault := c, api.OK
			switch {
			case !wantKnown(p):
				want, fault = api.Cell{}, api.ErrOrder
			case p.Type == 0xc0 && c.Attr:
				want.FA = p.Value & 0x3d
			case p.Type == 0x41:
				want.High = p.Value
			case p.Type == 0x42:
				want.Color = p.Value
			case p.Type == 0x43:
				want.Set = p.Value
			case p.Type == 0:
				want.High, want.Color, want.Set = 0, 0, 0
			}
			if got, e := p.Apply(c); got != want || e != fault {
				t.Fatalf("%02x applied to %v is %v, %d, want %v, %d", p, c, got, e, want, fault)
			}
		})
	}
}

// P5.2 with fixed answers.
func TestApplyExamples(t *testing.T) {
	full := api.Cell{Attr: true, FA: 0x10, High: 0xf1, Color: 0xf2, Set: 0xf1}
	letter := api.Cell{Char: 0xc1, High: 0xf1, Color: 0xf2}
	for _, c := range []struct {
		pair attr.Pair
		cell api.Cell
		want api.Cell
	}{
		{attr.Pair{Type: 0xc0, Value: 0xe4}, full, api.Cell{Attr: true, FA: 0x24, High: 0xf1, Color: 0xf2, Set: 0xf1}},
		{attr.Pair{Type: 0xc0, Value: 0xff}, full, api.Cell{Attr: true, FA: 0x3d, High: 0xf1, Color: 0xf2, Set: 0xf1}},
		{attr.Pair{Type: 0xc0, Value: 0xc2}, full, api.Cell{Attr: true, FA: 0, High: 0xf1, Color: 0xf2, Set: 0xf1}},
		{attr.Pair{Type: 0xc0, Value: 0x60}, letter, letter},
		{attr.Pair{Type: 0x41, Value: 0xf0}, letter, api.Cell{Char: 0xc1, High: 0xf0, Color: 0xf2}},
		{attr.Pair{Type: 0x42, Value: 0x00}, letter, api.Cell{Char: 0xc1, High: 0xf1}},
		{attr.Pair{Type: 0x43, Value: 0xf1}, letter, api.Cell{Char: 0xc1, High: 0xf1, Color: 0xf2, Set: 0xf1}},
		{attr.Pair{}, letter, api.Cell{Char: 0xc1}},
		{attr.Pair{}, full, api.Cell{Attr: true, FA: 0x10}},
	} {
		if got, e := c.pair.Apply(c.cell); got != c.want || e != api.OK {
			t.Errorf("%02x applied to %v is %v, %d, want %v", c.pair, c.cell, got, e, c.want)
		}
	}
}

// long returns n valid attributes as bytes, without their number.
func long(n int) []byte {
	return bytes.Repeat([]byte{0x42, 0xf3}, n)
}

// P5.2: attributes at the beginning, with what follows them left alone.
func TestParse(t *testing.T) {
	for _, c := range []struct {
		p    []byte
		l    []attr.Pair
		used int
	}{
		{[]byte{0}, nil, 1},
		{[]byte{0, 0x41, 0xf3}, nil, 1},
		{[]byte{1, 0, 0}, []attr.Pair{{}}, 3},
		{[]byte{1, 0x41, 0xf4}, []attr.Pair{{Type: 0x41, Value: 0xf4}}, 3},
		{[]byte{1, 0x41, 0xf4, 0x99}, []attr.Pair{{Type: 0x41, Value: 0xf4}}, 3},
		{[]byte{1, 0xc0, 0x13, 0x42, 0x99}, []attr.Pair{{Type: 0xc0, Value: 0x13}}, 3},
		{[]byte{2, 0xc0, 0x60, 0x42, 0xf2, 9}, []attr.Pair{{Type: 0xc0, Value: 0x60}, {Type: 0x42, Value: 0xf2}}, 5},
		{[]byte{2, 0x43, 0xf1, 0x43, 0}, []attr.Pair{{Type: 0x43, Value: 0xf1}, {Type: 0x43}}, 5},
		{append([]byte{255}, long(255)...), slices.Repeat([]attr.Pair{{Type: 0x42, Value: 0xf3}}, 255), 511},
		{append([]byte{128}, long(200)...), slices.Repeat([]attr.Pair{{Type: 0x42, Value: 0xf3}}, 128), 257},
	} {
		if l, used, e := attr.Parse(c.p); !slices.Equal(l, c.l) || used != c.used || e != api.OK {
			t.Errorf("Parse(%x) is %02x, %d, %d, want %02x, %d", c.p, l, used, e, c.l, c.used)
		}
	}
}

// P5.2: what is incomplete is so before anything in it is invalid.
func TestParseErrors(t *testing.T) {
	for _, c := range []struct {
		p []byte
		e api.Errno
	}{
		{nil, api.ErrShort},
		{[]byte{}, api.ErrShort},
		{[]byte{1}, api.ErrShort},
		{[]byte{1, 0x41}, api.ErrShort},
		{[]byte{1, 0x99}, api.ErrShort},
		{[]byte{2, 0x41, 0xf1}, api.ErrShort},
		{[]byte{2, 0x41, 0xf3}, api.ErrShort},
		{[]byte{2, 0x99, 0xf3, 0x42}, api.ErrShort},
		{append([]byte{255}, long(254)...), api.ErrShort},
		{append([]byte{255}, long(255)[:509]...), api.ErrShort},
		{make([]byte, 0, 4), api.ErrShort},
		{[]byte{1, 0x41, 0x41}[:2], api.ErrShort},
		{[]byte{1, 0x41, 0xf3}, api.ErrOrder},
		{[]byte{1, 0x42, 0xf0}, api.ErrOrder},
		{[]byte{1, 0x42, 0xf8}, api.ErrOrder},
		{[]byte{1, 0x43, 0xf0}, api.ErrOrder},
		{[]byte{1, 0, 1}, api.ErrOrder},
		{[]byte{1, 0x44, 0}, api.ErrOrder},
		{[]byte{2, 0x42, 0xf1, 0x40, 0}, api.ErrOrder},
		{[]byte{2, 0x40, 0, 0x42, 0xf1, 0x42}, api.ErrOrder},
	} {
		if l, used, e := attr.Parse(c.p); len(l) != 0 || used != 0 || e != c.e {
			t.Errorf("Parse(%x) is %02x, %d, %d, want %d", c.p, l, used, e, c.e)
		}
	}
}

// P5.2: every pair alone, encoded and parsed.
func TestParseAndBytesOfEachPair(t *testing.T) {
	each(func(pair attr.Pair) {
		p := []byte{1, pair.Type, pair.Value}
		l, used, e := attr.Parse(p)
		back, e2 := attr.Bytes([]attr.Pair{pair})
		if !wantKnown(pair) {
			if len(l) != 0 || used != 0 || e != api.ErrOrder || len(back) != 0 || e2 != api.ErrOrder {
				t.Errorf("%02x: Parse is %02x, %d, %d, Bytes is %x, %d", pair, l, used, e, back, e2)
			}
			return
		}
		if !slices.Equal(l, []attr.Pair{pair}) || used != 3 || e != api.OK || !bytes.Equal(back, p) || e2 != api.OK {
			t.Errorf("%02x: Parse is %02x, %d, %d, Bytes is %x, %d", pair, l, used, e, back, e2)
		}
	})
}

// P5.2: the encoding of any number of attributes, up to 255.
func TestBytes(t *testing.T) {
	for _, l := range [][]attr.Pair{nil, {}} {
		if p, e := attr.Bytes(l); !bytes.Equal(p, []byte{0}) || e != api.OK {
			t.Errorf("Bytes of nothing is %x, %d", p, e)
		}
	}
	for n := range 256 {
		want := append([]byte{byte(n)}, long(n)...)
		l := slices.Repeat([]attr.Pair{{Type: 0x42, Value: 0xf3}}, n)
		if p, e := attr.Bytes(l); !bytes.Equal(p, want) || e != api.OK {
			t.Errorf("Bytes of %d is %x, %d", n, p, e)
		}
	}
	l := []attr.Pair{{Type: 0xc0, Value: 0xe4}, {Type: 0x41, Value: 0xf8}, {}}
	if p, e := attr.Bytes(l); !bytes.Equal(p, []byte{3, 0xc0, 0xe4, 0x41, 0xf8, 0, 0}) || e != api.OK {
		t.Errorf("Bytes(%02x) is %x, %d", l, p, e)
	}
}

// P5.2: too many are so before one of them is invalid.
func TestBytesErrors(t *testing.T) {
	good, bad := attr.Pair{Type: 0x41, Value: 0xf1}, attr.Pair{Type: 0x41, Value: 0xf3}
	for _, c := range []struct {
		l []attr.Pair
		e api.Errno
	}{
		{slices.Repeat([]attr.Pair{good}, 256), api.ErrLong},
		{slices.Repeat([]attr.Pair{bad}, 256), api.ErrLong},
		{slices.Repeat([]attr.Pair{good}, 512), api.ErrLong},
		{slices.Repeat([]attr.Pair{bad}, 255), api.ErrOrder},
		{append(slices.Repeat([]attr.Pair{good}, 254), bad), api.ErrOrder},
		{[]attr.Pair{bad}, api.ErrOrder},
		{[]attr.Pair{good, bad, good}, api.ErrOrder},
	} {
		if p, e := attr.Bytes(c.l); len(p) != 0 || e != c.e {
			t.Errorf("Bytes of %d is %x, %d, want %d", len(c.l), p, e, c.e)
		}
	}
}

// P5.3: the attributes of a cell, in order.
func TestPairs(t *testing.T) {
	for _, c := range []struct {
		cell api.Cell
		want []attr.Pair
	}{
		{api.Cell{}, nil},
		{api.Cell{Char: 0xc1}, nil},
		{api.Cell{Char: 0xc1, FA: 0x20}, nil},
		{api.Cell{Attr: true}, []attr.Pair{{Type: 0xc0, Value: 0x40}}},
		{api.Cell{Attr: true, FA: 0x21}, []attr.Pair{{Type: 0xc0, Value: 0x61}}},
		{api.Cell{Attr: true, FA: 0x3f}, []attr.Pair{{Type: 0xc0, Value: 0x7d}}},
		{api.Cell{Attr: true, FA: 0xc2}, []attr.Pair{{Type: 0xc0, Value: 0x40}}},
		{api.Cell{Attr: true, FA: 0xff}, []attr.Pair{{Type: 0xc0, Value: 0x7d}}},
		{api.Cell{Attr: true, FA: 0x24, High: 0xf1, Color: 0xf2, Set: 0xf1},
			[]attr.Pair{{Type: 0xc0, Value: 0xe4}, {Type: 0x41, Value: 0xf1}, {Type: 0x42, Value: 0xf2}, {Type: 0x43, Value: 0xf1}}},
		{api.Cell{Attr: true, Color: 0xf7}, []attr.Pair{{Type: 0xc0, Value: 0x40}, {Type: 0x42, Value: 0xf7}}},
		{api.Cell{Char: 0xc1, High: 0xf0, Set: 0xf1}, []attr.Pair{{Type: 0x41, Value: 0xf0}, {Type: 0x43, Value: 0xf1}}},
		{api.Cell{Char: 0xc1, High: 0x01, Color: 0x02, Set: 0x03},
			[]attr.Pair{{Type: 0x41, Value: 0x01}, {Type: 0x42, Value: 0x02}, {Type: 0x43, Value: 0x03}}},
	} {
		if got := attr.Pairs(c.cell); !slices.Equal(got, c.want) {
			t.Errorf("Pairs(%v) is %02x, want %02x", c.cell, got, c.want)
		}
	}
}

// apply applies attributes one after the other.
func apply(t *testing.T, c api.Cell, l []attr.Pair) api.Cell {
	t.Helper()
	for _, p := range l {
		var e api.Errno
		if c, e = p.Apply(c); e != api.OK {
			t.Fatalf("%02x: %d", p, e)
		}
	}
	return c
}

// looks yields all display attributes that cells can have.
func looks() []api.Cell {
	var l []api.Cell
	for _, high := range []byte{0, 0xf0, 0xf1, 0xf2, 0xf4, 0xf8} {
		for _, color := range []byte{0, 0xf1, 0xf2, 0xf3, 0xf4, 0xf5, 0xf6, 0xf7} {
			for _, set := range []byte{0, 0xf1} {
				l = append(l, api.Cell{High: high, Color: color, Set: set})
			}
		}
	}
	return l
}

// P5.3: Pairs turns an empty cell into the cell, for every field attribute with all display attributes.
func TestPairsApplied(t *testing.T) {
	for _, c := range looks() {
		if got := apply(t, api.Cell{}, attr.Pairs(c)); got != c {
			t.Errorf("Pairs(%v) leads to %v", c, got)
		}
		c.Attr = true
		for bits := range fields() {
			c.FA = bits
			if got := apply(t, api.Cell{Attr: true}, attr.Pairs(c)); got != c {
				t.Errorf("Pairs(%v) leads to %v", c, got)
			}
		}
	}
}

// P5.3: the C0 of every FA is its byte without the bit 2.
func TestPairsOfEachAttribute(t *testing.T) {
	for fa := range 256 {
		want := []attr.Pair{{Type: 0xc0, Value: sixBit(byte(fa) & 0x3d)}}
		if got := attr.Pairs(api.Cell{Attr: true, FA: byte(fa)}); !slices.Equal(got, want) {
			t.Errorf("FA %02x: Pairs is %02x, want %02x", fa, got, want)
		}
	}
}

// P5.3: what differs, in order and with the second cell's value; nothing else counts.
func TestDiff(t *testing.T) {
	a := api.Cell{Char: 0xc1, High: 0xf1, Color: 0xf2, Set: 0xf1}
	for _, c := range []struct {
		a, b api.Cell
		want []attr.Pair
	}{
		{api.Cell{}, api.Cell{}, nil},
		{a, a, nil},
		{a, api.Cell{Attr: true, FA: 0x20, High: 0xf1, Color: 0xf2, Set: 0xf1}, nil},
		{api.Cell{Attr: true, FA: 0x20}, api.Cell{Char: 0xc1}, nil},
		{api.Cell{}, a, []attr.Pair{{Type: 0x41, Value: 0xf1}, {Type: 0x42, Value: 0xf2}, {Type: 0x43, Value: 0xf1}}},
		{a, api.Cell{}, []attr.Pair{{Type: 0x41}, {Type: 0x42}, {Type: 0x43}}},
		{a, api.Cell{High: 0xf4, Color: 0xf2, Set: 0xf1}, []attr.Pair{{Type: 0x41, Value: 0xf4}}},
		{a, api.Cell{High: 0xf1, Color: 0xf3, Set: 0xf1}, []attr.Pair{{Type: 0x42, Value: 0xf3}}},
		{a, api.Cell{High: 0xf1, Color: 0xf2}, []attr.Pair{{Type: 0x43}}},
		{api.Cell{High: 0x01}, api.Cell{High: 0x02}, []attr.Pair{{Type: 0x41, Value: 0x02}}},
	} {
		if got := attr.Diff(c.a, c.b); !slices.Equal(got, c.want) {
			t.Errorf("Diff(%v, %v) is %02x, want %02x", c.a, c.b, got, c.want)
		}
	}
}

// P5.3: the difference leads from one cell's display attributes to the other's, by as few as possible.
func TestDiffApplied(t *testing.T) {
	for _, a := range looks() {
		for _, b := range looks() {
			l := attr.Diff(a, b)
			if got := apply(t, a, l); got != b {
				t.Errorf("Diff(%v, %v) leads to %v", a, b, got)
			}
			for _, p := range l {
				if c, _ := p.Apply(a); c == a {
					t.Errorf("Diff(%v, %v) has %02x, which changes nothing", a, b, p)
				}
			}
		}
	}
}
