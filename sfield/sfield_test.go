package sfield_test

import (
	"math/rand/v2"
	"strings"
	"testing"

	"vitrine/api"
	"vitrine/sfield"
)

// P21.1: fields that are complete, incomplete ones, and those whose length of 0 takes all that is left.
func TestFields(t *testing.T) {
	one := of(0x01, "\xff\x02")
	for _, v := range []struct {
		p    string
		want []sfield.Field
		e    api.Errno
	}{
		{"", nil, api.OK},
		{"\x00", nil, api.ErrShort},
		{"\x03", nil, api.ErrShort},
		{"\x00\x00", nil, api.ErrShort},
		{"\x00\x02", nil, api.ErrShort},
		{"\x00\x03", nil, api.ErrShort},
		{"\x00\x00\x77", []sfield.Field{of(0x77, "")}, api.OK},
		{"\x00\x01\x77", nil, api.ErrShort},
		{"\x00\x02\x77", nil, api.ErrShort},
		{"\x00\x03\x77", []sfield.Field{of(0x77, "")}, api.OK},
		{"\x00\x04\x77", nil, api.ErrShort},
		{"\x01\x03\x77", nil, api.ErrShort},
		{"\xff\xff\x77", nil, api.ErrShort},
		{"\x00\x05\x01\xff\x02", []sfield.Field{one}, api.OK},
		{"\x00\x06\x01\xff\x02", nil, api.ErrShort},
		{"\x00\x04\x01\xff\x02", []sfield.Field{of(0x01, "\xff")}, api.ErrShort},
		{"\x00\x03\x01\xff\x02", []sfield.Field{of(0x01, "")}, api.ErrShort},
		{"\x00\x00\x01\xff\x02", []sfield.Field{one}, api.OK},
		{"\x00\x01\x01\xff\x02", nil, api.ErrShort},
		{"\x00\x02\x01\xff\x02", nil, api.ErrShort},
		{"\x00\x00\x01\xff\x02\x00\x04\x03\x80", []sfield.Field{of(0x01, "\xff\x02\x00\x04\x03\x80")}, api.OK},
		{"\x00\x05\x01\xff\x02\x00\x04\x03\x80", []sfield.Field{one, of(0x03, "\x80")}, api.OK},
		{"\x00\x05\x01\xff\x02\x00\x00\x03\x80", []sfield.Field{one, of(0x03, "\x80")}, api.OK},
		{"\x00\x05\x01\xff\x02\x00\x03\x03\x80", []sfield.Field{one, of(0x03, "")}, api.ErrShort},
		{"\x00\x05\x01\xff\x02\x00\x05\x03\x80", []sfield.Field{one}, api.ErrShort},
		{"\x00\x05\x01\xff\x02\x00\x02\x03\x00\x04\x03\x80", []sfield.Field{one}, api.ErrShort},
		{"\x00\x05\x01\xff\x02\x00", []sfield.Field{one}, api.ErrShort},
		{"\x00\x05\x01\xff\x02\x00\x00", []sfield.Field{one}, api.ErrShort},
		{"\x00\x03\x00\x00\x03\x00\x00\x03\xff", []sfield.Field{of(0, ""), of(0, ""), of(0xff, "")}, api.OK},
	} {
		expectFields(t, v.p, v.want, v.e)
	}
	if l, e := sfield.All(nil); len(l) != 0 || e != api.OK {
		t.Errorf("All of nil: %v, %d", l, e)
	}
	for range sfield.Fields(nil) {
		t.Error("Fields of nil yields something")
	}
}

// P21.1: each length of two bytes before as much as it says, one byte less and one more.
func TestFieldLengths(t *testing.T) {
	for n := 3; n < 65536; n += 1 + n/300 {
		data := strings.Repeat("\x05", n-3)
		expectFields(t, whole(0x40, data), []sfield.Field{of(0x40, data)}, api.OK)
		expectFields(t, whole(0x40, data)[:n-1], nil, api.ErrShort)
		expectFields(t, whole(0x40, data)+"\x00", []sfield.Field{of(0x40, data)}, api.ErrShort)
		expectFields(t, "\x00\x00\x40"+data, []sfield.Field{of(0x40, data)}, api.OK)
	}
	long := strings.Repeat("\x05", 120000)
	expectFields(t, "\x00\x00\x40"+long, []sfield.Field{of(0x40, long)}, api.OK)
	want, e := wantFields("\xff\xff\x40" + long)
	expectFields(t, "\xff\xff\x40"+long, want, e)
}

// P21.1: Fields is left before its end, and goes through the fields anew.
func TestFieldsLeft(t *testing.T) {
	p := []byte("\x00\x04\x01a\x00\x04\x02b\x00\x04\x03c\x00")
	each := sfield.Fields(p)
	for stop := range 5 {
		for range 2 {
			count := 0
			for f, e := range each {
				if count < 3 && (e != api.OK || !sameField(f, of(byte(count+1), string(rune('a'+count))))) {
					t.Fatalf("field %d is %v, %d", count, f, e)
				}
				if count == 3 && e != api.ErrShort {
					t.Fatalf("the error is %d", e)
				}
				if count == stop {
					break
				}
				count++
			}
			if count != min(stop, 4) {
				t.Fatalf("%d fields up to %d", count, stop)
			}
		}
	}
}

// wantFields goes through the data by an index.
func wantFields(p string) ([]sfield.Field, api.Errno) {
	var l []sfield.Field
	for n := 0; n != len(p); {
		if n+3 > len(p) {
			return l, api.ErrShort
		}
		end := n + int(p[n])*256 + int(p[n+1])
		if end == n {
			end = len(p)
		}
		if end < n+3 || end > len(p) {
			return l, api.ErrShort
		}
		l = append(l, of(p[n+2], p[n+3:end]))
		n = end
	}
	return l, api.OK
}

// P21.1: bytes by chance; and what is complete, encoded again, is the same.
func TestFieldsByChance(t *testing.T) {
	r := rand.New(rand.NewPCG(21, 1))
	for range 60000 {
		p := ""
		for range r.IntN(7) {
			n := r.IntN(5)
			p += string([]byte{0, byte(n + 3), identifiers[r.IntN(7)]})
			for range n {
				p += string([]byte{byte(r.IntN(6))})
			}
		}
		if p != "" && r.IntN(2) == 0 {
			n := r.IntN(len(p))
			p = p[:n] + string([]byte{byte(r.IntN(9))}) + p[n+r.IntN(2):]
		}
		want, e := wantFields(p)
		expectFields(t, p, want, e)
	}
}

// P21.1: what Bytes returns is parsed as the same field; it has at most MaxRecord bytes.
func TestFieldBytes(t *testing.T) {
	for id := range 256 {
		for _, data := range []string{"", "\x00", "\xff\x02", "\x00\x00\x05", strings.Repeat("a", 252), strings.Repeat("a", 253), strings.Repeat("\x00", 8189)} {
			p, e := of(byte(id), data).Bytes()
			if string(p) != whole(byte(id), data) || e != api.OK {
				t.Fatalf("Bytes of %x, %.80x: %.80x, %d", id, data, p, e)
			}
			expectFields(t, string(p), []sfield.Field{of(byte(id), data)}, api.OK)
		}
	}
	if p, e := (sfield.Field{}).Bytes(); string(p) != "\x00\x03\x00" || e != api.OK {
		t.Errorf("Bytes of an empty field: %x, %d", p, e)
	}
	for _, n := range []int{api.MaxRecord - 2, api.MaxRecord, 65532, 65533, 65536, 70000} {
		if p, e := of(0x40, strings.Repeat("a", n)).Bytes(); p != nil || e != api.ErrLong {
			t.Errorf("Bytes of %d bytes: %d bytes, %d", n, len(p), e)
		}
	}
}
