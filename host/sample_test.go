package host_test

import (
	"fmt"
	"math"
	"strings"
	"testing"

	"vitrine/addr"
	"vitrine/api"
	"vitrine/attr"
	"vitrine/host"
	"vitrine/page"
)

// pages are the numbers of all pages.
var pages = []int{37, 273, 297, 500, 1047, 1140}

// sizes are those of the models, and others that are valid.
var sizes = []addr.Size{{Rows: 24, Cols: 80}, {Rows: 32, Cols: 80}, {Rows: 43, Cols: 80}, {Rows: 27, Cols: 132},
	{Rows: 1, Cols: 1}, {Rows: 1, Cols: 132}, {Rows: 43, Cols: 1}, {Rows: 2, Cols: 3}, {Rows: 43, Cols: 82}}

// wrongSizes are invalid, by their rows, their columns or their positions.
var wrongSizes = []addr.Size{{}, {Rows: 24}, {Cols: 80}, {Rows: 44, Cols: 80}, {Rows: 24, Cols: 133}, {Rows: 28, Cols: 132}, {Rows: 43, Cols: 83}, {Rows: -24, Cols: 80}, {Rows: 24, Cols: -80},
	{Rows: -24, Cols: -80}, {Rows: 256 + 24, Cols: 80}, {Rows: math.MaxInt, Cols: math.MaxInt}, {Rows: math.MinInt, Cols: 2}, {Rows: 1 << 32, Cols: 1 << 32}}

// usual is the size of model 2.
var usual = addr.Size{Rows: 24, Cols: 80}

func newPage(t *testing.T, number int) *page.Page {
	t.Helper()
	p, e := page.New(number)
	if e != api.OK {
		t.Fatal(e)
	}
	return p
}

// six is the six-bit code of a number below 64, as layer 4 lists them.
func six(n int) byte {
	codes := "\x40\xc1\xc2\xc3\xc4\xc5\xc6\xc7\xc8\xc9\x4a\x4b\x4c\x4d\x4e\x4f\x50\xd1\xd2\xd3\xd4\xd5\xd6\xd7\xd8\xd9\x5a\x5b\x5c\x5d\x5e\x5f" +
		"\x60\x61\xe2\xe3\xe4\xe5\xe6\xe7\xe8\xe9\x6a\x6b\x6c\x6d\x6e\x6f\xf0\xf1\xf2\xf3\xf4\xf5\xf6\xf7\xf8\xf9\x7a\x7b\x7c\x7d\x7e\x7f"
	return codes[n]
}

// to is SBA with an address of 12 bits.
func to(n int) string {
	return string([]byte{0x11, six(n / 64), six(n % 64)})
}

// attribute is the byte of a field attribute, put together from layer 5's bits.
func attribute(f attr.Field) byte {
	bits := f.Display * 4
	if f.Protected {
		bits += 0x20
	}
	if f.Numeric {
		bits += 0x10
	}
	if f.Modified {
		bits++
	}
	return six(bits)
}

// isOrder lists the bytes of orders as layer 16 does.
func isOrder(b byte) bool {
	return strings.IndexByte("\x05\x08\x11\x12\x13\x1d\x28\x29\x2c\x3c", b) >= 0
}

// attributes are all field attributes that there are.
func attributes() []attr.Field {
	var l []attr.Field
	for n := range 32 {
		l = append(l, attr.Field{Protected: n&1 != 0, Numeric: n&2 != 0, Modified: n&4 != 0, Display: n >> 3})
	}
	return l
}

// expectRecord compares what Record returns on page 37.
func expectRecord(t *testing.T, f host.Form, s addr.Size, want string, e api.Errno) {
	t.Helper()
	expectOnPage(t, f, s, newPage(t, 37), want, e)
}

func expectOnPage(t *testing.T, f host.Form, s addr.Size, p *page.Page, want string, e api.Errno) {
	t.Helper()
	if got, errno := f.Record(s, p); string(got) != want || errno != e {
		t.Fatalf("Record of %.200s on %v: %.80x, %d, want %.80x, %d", fmt.Sprint(f), s, got, errno, want, e)
	}
}

// only is a form with these items, and no flags.
func only(l ...host.Item) host.Form {
	return host.Form{Items: l}
}

// overwrite fills a slice and its spare capacity.
func overwrite(p []byte) {
	p = p[:cap(p)]
	for i := range p {
		p[i] = 0x99
	}
}

// spareBytes are what spare leaves in the capacity behind.
const spareBytes = "\xff\xef\xff\xfd\x18"

func spare(s string) []byte {
	return append([]byte(s), spareBytes...)[:len(s)]
}

func untouched(p []byte, s string) bool {
	return string(p) == s && string(p[:cap(p)][:len(s)+len(spareBytes)]) == s+spareBytes
}
