package attr_test

import (
	"math"
	"testing"

	"vitrine/api"
	"vitrine/attr"
)

// fields yields every field attribute once, by its bits as the document lists them.
func fields() map[byte]attr.Field {
	all := map[byte]attr.Field{}
	for display := range 4 {
		for _, protected := range []bool{false, true} {
			for _, numeric := range []bool{false, true} {
				for _, modified := range []bool{false, true} {
					bits := byte(4 * display)
					if protected {
						bits += 0x20
					}
					if numeric {
						bits += 0x10
					}
					if modified {
						bits++
					}
					all[bits] = attr.Field{Protected: protected, Numeric: numeric, Display: display, Modified: modified}
				}
			}
		}
	}
	return all
}

// sixBit returns the six-bit code that layer 4's chapter gives to a number.
func sixBit(n byte) byte {
	switch {
	case n == 0x21:
		return 0x61
	case n == 0x00 || n == 0x10 || n == 0x20 || n%16 >= 10:
		return 0x40 + n
	}
	return 0xc0 + n
}

// P5.1: the bits and the byte of every field attribute.
func TestBitsAndByte(t *testing.T) {
	all := fields()
	if len(all) != 32 {
		t.Fatal(len(all))
	}
	for bits, f := range all {
		if got, e := f.Bits(); got != bits || e != api.OK {
			t.Errorf("%v: Bits is %02x, %d, want %02x", f, got, e, bits)
		}
		if got, e := f.Byte(); got != sixBit(bits) || e != api.OK {
			t.Errorf("%v: Byte is %02x, %d, want %02x", f, got, e, sixBit(bits))
		}
	}
}

// P5.1 with fixed answers, among them the codes that are not regular.
func TestByteExamples(t *testing.T) {
	for _, c := range []struct {
		field attr.Field
		want  byte
	}{
		{attr.Field{}, 0x40},
		{attr.Field{Modified: true}, 0xc1},
		{attr.Field{Display: 1}, 0xc4},
		{attr.Field{Display: 2}, 0xc8},
		{attr.Field{Display: 3}, 0x4c},
		{attr.Field{Display: 3, Modified: true}, 0x4d},
		{attr.Field{Numeric: true}, 0x50},
		{attr.Field{Protected: true}, 0x60},
		{attr.Field{Protected: true, Modified: true}, 0x61},
		{attr.Field{Protected: true, Display: 1}, 0xe4},
		{attr.Field{Protected: true, Numeric: true}, 0xf0},
		{attr.Field{Protected: true, Numeric: true, Display: 3, Modified: true}, 0x7d},
	} {
		if got, e := c.field.Byte(); got != c.want || e != api.OK {
			t.Errorf("%v: Byte is %02x, %d, want %02x", c.field, got, e, c.want)
		}
	}
}

// P5.1: displays outside 0 .. 3, whatever else the field has.
func TestInvalidDisplay(t *testing.T) {
	for _, display := range []int{-1, -4, 4, 5, 8, 12, 16, 256, 257, 1 << 32, math.MaxInt, math.MinInt} {
		for _, f := range []attr.Field{{Display: display}, {Display: display, Protected: true, Numeric: true, Modified: true}} {
			if got, e := f.Bits(); got != 0 || e != api.ErrArg {
				t.Errorf("%v: Bits is %02x, %d", f, got, e)
			}
			if got, e := f.Byte(); got != 0 || e != api.ErrArg {
				t.Errorf("%v: Byte is %02x, %d", f, got, e)
			}
			if f.Hidden() || f.Detectable() || f.Skipped() != f.Protected {
				t.Errorf("%v: Hidden, Detectable or Skipped", f)
			}
		}
	}
}

// P5.1: of all bytes the lower six bits count, and the bit 2 does not.
func TestOf(t *testing.T) {
	all := fields()
	for b := range 256 {
		bits := byte(b) & 0x3d
		if got := attr.Of(byte(b)); got != all[bits] {
			t.Errorf("Of(%02x) is %v, want %v", b, got, all[bits])
		}
		if got, e := attr.Of(byte(b)).Bits(); got != bits || e != api.OK {
			t.Errorf("the bits of Of(%02x) are %02x, %d", b, got, e)
		}
	}
	if f := attr.Of(0xe4); f != (attr.Field{Protected: true, Display: 1}) {
		t.Errorf("Of(e4) is %v", f)
	}
}

// P5.1: the properties of every field attribute.
func TestProperties(t *testing.T) {
	for bits, f := range fields() {
		if f.Skipped() != (bits >= 0x30) {
			t.Errorf("%02x: Skipped is %v", bits, f.Skipped())
		}
		if f.Hidden() != (bits&0x0c == 0x0c) {
			t.Errorf("%02x: Hidden is %v", bits, f.Hidden())
		}
		if f.Detectable() != (bits&0x0c == 0x04 || bits&0x0c == 0x08) {
			t.Errorf("%02x: Detectable is %v", bits, f.Detectable())
		}
	}
}
