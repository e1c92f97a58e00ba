package addr_test

import (
	"bytes"
	"math"
	"testing"

	"vitrine/addr"
	"vitrine/api"
)

// sixCodes writes the codes as the document does: runs of bytes, in order.
func sixCodes(t *testing.T) []byte {
	t.Helper()
	var l []byte
	for _, run := range [][2]byte{
		{0x40, 0x40}, {0xc1, 0xc9}, {0x4a, 0x4f}, {0x50, 0x50}, {0xd1, 0xd9}, {0x5a, 0x5f},
		{0x60, 0x60}, {0x61, 0x61}, {0xe2, 0xe9}, {0x6a, 0x6f}, {0xf0, 0xf9}, {0x7a, 0x7f},
	} {
		for b := int(run[0]); b <= int(run[1]); b++ {
			l = append(l, byte(b))
		}
	}
	if len(l) != 64 {
		t.Fatal(len(l))
	}
	return l
}

// P4.2: the six-bit codes, of all numbers by their lower six bits.
func TestSix(t *testing.T) {
	codes := sixCodes(t)
	for n := -200; n <= 200; n++ {
		if want := codes[sumModulo(64, n)]; addr.Six(n) != want {
			t.Errorf("Six(%d) is %02x, want %02x", n, addr.Six(n), want)
		}
	}
	for _, n := range numbers() {
		if want := codes[sumModulo(64, n)]; addr.Six(n) != want {
			t.Errorf("Six(%d) is %02x, want %02x", n, addr.Six(n), want)
		}
	}
}

// P4.2: all bytes, codes or not.
func TestUnsix(t *testing.T) {
	codes := sixCodes(t)
	for b := range 256 {
		want := bytes.IndexByte(codes, byte(b))
		if want < 0 {
			want = b % 64
		}
		if got := addr.Unsix(byte(b)); got != want {
			t.Errorf("Unsix(%02x) is %d, want %d", b, got, want)
		}
	}
}

// P4.3: all addresses of 12, 14 and 16 bits, there and back.
func TestEncodeAndDecode(t *testing.T) {
	codes := sixCodes(t)
	for bits, limit := range map[int]int{12: 4096, 14: 16384, 16: 65536} {
		for n := range limit {
			want := []byte{byte(n / 256), byte(n % 256)}
			if bits == 12 {
				want = []byte{codes[n/64], codes[n%64]}
			}
			p, e := addr.Encode(bits, n)
			if e != api.OK || !bytes.Equal(p, want) {
				t.Fatalf("Encode(%d, %d) is %x, %d, want %x", bits, n, p, e, want)
			}
			if back, e := addr.Decode(bits, p); e != api.OK || back != n {
				t.Fatalf("Decode(%d, %x) is %d, %d, want %d", bits, p, back, e, n)
			}
		}
	}
}

// P4.3: numbers that do not fit, and numbers of bits that are none.
func TestEncodeErrors(t *testing.T) {
	for bits, limit := range map[int]int{12: 4096, 14: 16384, 16: 65536} {
		for _, n := range []int{limit, limit + 1, 2 * limit, 1 << 40, -1, -limit, math.MaxInt, math.MinInt} {
			if p, e := addr.Encode(bits, n); e != api.ErrAddr || len(p) != 0 {
				t.Errorf("Encode(%d, %d) is %x, %d", bits, n, p, e)
			}
		}
	}
	for _, bits := range noBits() {
		for _, n := range []int{0, 1, 4095, 4096, 65536, -1, math.MaxInt, math.MinInt} {
			if p, e := addr.Encode(bits, n); e != api.ErrArg || len(p) != 0 {
				t.Errorf("Encode(%d, %d) is %x, %d", bits, n, p, e)
			}
		}
	}
}

func noBits() []int {
	return []int{0, 1, 6, 8, 11, 13, 15, 17, 24, 32, 63, 64, -1, -12, -14, -16, math.MaxInt, math.MinInt}
}

// P4.3: every first byte, with second bytes that are codes and that are none.
func TestDecodeAllFirstBytes(t *testing.T) {
	for first := range 256 {
		for second := range 256 {
			p := []byte{byte(first), byte(second)}
			want, fault := 256*first+second, api.OK
			if n, e := addr.Decode(16, p); n != want || e != api.OK {
				t.Fatalf("Decode(16, %x) is %d, %d", p, n, e)
			}
			switch {
			case first >= 0x80 && first <= 0xbf:
				want, fault = 0, api.ErrAddr
			case first >= 0x40:
				want = first%64*64 + second%64
			}
			for _, bits := range []int{12, 14} {
				if n, e := addr.Decode(bits, p); n != want || e != fault {
					t.Fatalf("Decode(%d, %x) is %d, %d, want %d, %d", bits, p, n, e, want, fault)
				}
			}
		}
	}
}

// P4.3 with fixed answers: the examples, further bytes, and the errors in their order.
func TestDecodeExamples(t *testing.T) {
	for _, c := range []struct {
		bits int
		p    []byte
		n    int
		e    api.Errno
	}{
		{12, []byte{0xc1, 0xd1}, 81, api.OK},
		{12, []byte{0x00, 0x51}, 81, api.OK},
		{14, []byte{0xc1, 0xd1}, 81, api.OK},
		{14, []byte{0x5d, 0x7f}, 1919, api.OK},
		{12, []byte{0x3f, 0xff}, 16383, api.OK},
		{12, []byte{0x41, 0x02}, 66, api.OK},
		{12, []byte{0x40, 0x80}, 0, api.OK},
		{12, []byte{0xff, 0xff}, 4095, api.OK},
		{16, []byte{0xc1, 0xd1}, 0xc1d1, api.OK},
		{16, []byte{0xff, 0xff}, 65535, api.OK},
		{12, []byte{0xc1, 0xd1, 0xff}, 81, api.OK},
		{14, []byte{0x00, 0x51, 0x80, 0x80}, 81, api.OK},
		{16, []byte{0x00, 0x51, 0x80}, 81, api.OK},
		{12, []byte{0x80, 0x40}, 0, api.ErrAddr},
		{14, []byte{0xbf, 0x40}, 0, api.ErrAddr},
		{12, []byte{0x80, 0x40, 0x40}, 0, api.ErrAddr},
		{16, []byte{0x80, 0x40}, 0x8040, api.OK},
		{12, []byte{0x80}, 0, api.ErrShort},
		{14, []byte{0x40}, 0, api.ErrShort},
		{16, []byte{0x40}, 0, api.ErrShort},
		{12, nil, 0, api.ErrShort},
		{14, nil, 0, api.ErrShort},
		{16, []byte{}, 0, api.ErrShort},
		{12, make([]byte, 1, 2), 0, api.ErrShort},
	} {
		if n, e := addr.Decode(c.bits, c.p); n != c.n || e != c.e {
			t.Errorf("Decode(%d, %x) is %d, %d, want %d, %d", c.bits, c.p, n, e, c.n, c.e)
		}
	}
	for _, bits := range noBits() {
		for _, p := range [][]byte{nil, {}, {0x40}, {0x40, 0x40}, {0x80, 0x40}} {
			if n, e := addr.Decode(bits, p); n != 0 || e != api.ErrArg {
				t.Errorf("Decode(%d, %x) is %d, %d", bits, p, n, e)
			}
		}
	}
}

// The rule of memory: arguments are not changed, and results are new memory.
func TestMemory(t *testing.T) {
	room := []byte{0xc1, 0xd1, 0x99}
	addr.Decode(12, room[:2])
	if !bytes.Equal(room, []byte{0xc1, 0xd1, 0x99}) {
		t.Errorf("the argument became %x", room)
	}
	for _, bits := range []int{12, 14, 16} {
		first, _ := addr.Encode(bits, 81)
		second, _ := addr.Encode(bits, 81)
		want := bytes.Clone(second)
		whole := first[:cap(first)]
		for i := range whole {
			whole[i] = 0
		}
		third, _ := addr.Encode(bits, 81)
		if !bytes.Equal(second, want) || !bytes.Equal(third, want) {
			t.Errorf("Encode(%d, 81) is shared: %x, %x", bits, second, third)
		}
	}
}
