package read_test

import (
	"bytes"
	"math"
	"math/rand/v2"
	"testing"

	"vitrine/api"
	"vitrine/read"
	"vitrine/space"
	"vitrine/write"
)

// cells are what is on a screen, by position.
type cells map[int]api.Cell

// field is an attribute with these six bits.
func field(bits byte) api.Cell {
	return api.Cell{Attr: true, FA: bits}
}

// char is a character without display attributes.
func char(code byte) api.Cell {
	return api.Cell{Char: code}
}

// escape is a graphic escape.
func escape(code byte) api.Cell {
	return api.Cell{Char: code, Set: 0xf1}
}

// newScreen makes an empty space of a model, with its alternate or the default size.
func newScreen(t *testing.T, model int, alternate bool) *space.Space {
	t.Helper()
	s, e := space.New(model)
	if e != api.OK {
		t.Fatal(e)
	}
	s.Clear(alternate)
	return s
}

// lay makes a space of 24 rows of 80 with these cells, and the cursor at 2.
func lay(t *testing.T, l cells) *space.Space {
	t.Helper()
	s := newScreen(t, 2, false)
	for n, c := range l {
		s.Set(n, c)
	}
	s.Place(2)
	return s
}

// eachScreen runs a test with the empty screen of each model in both sizes.
func eachScreen(t *testing.T, test func(s *space.Space)) {
	t.Helper()
	for model := 2; model <= 5; model++ {
		test(newScreen(t, model, false))
		test(newScreen(t, model, true))
	}
}

// reader is one of the three reads.
type reader struct {
	name    string
	command int
	read    func(*space.Space, byte, int) ([]byte, api.Errno)
}

func readers() []reader {
	return []reader{
		{"Buffer", write.ReadBuffer, read.Buffer},
		{"Modified", write.ReadModified, read.Modified},
		{"All", write.ReadAll, read.All},
	}
}

// wrongModes are numbers that are no reply mode.
func wrongModes() []int {
	return []int{-1, 3, 4, -2, 0x81, 255, 256, 257, 258, 1 << 32, math.MinInt, math.MaxInt}
}

// isShort reports whether an AID is that of PA1, PA2, PA3 or Clear.
func isShort(aid byte) bool {
	return aid == 0x6b || aid == 0x6c || aid == 0x6d || aid == 0x6e
}

// isOrder lists the bytes of orders as the document does.
func isOrder(b byte) bool {
	return bytes.IndexByte([]byte("\x05\x08\x11\x12\x13\x1d\x28\x29\x2c\x3c"), b) >= 0
}

// six is the six-bit code of a number below 64, as the document lists them.
func six(n int) byte {
	codes := "\x40\xc1\xc2\xc3\xc4\xc5\xc6\xc7\xc8\xc9\x4a\x4b\x4c\x4d\x4e\x4f\x50\xd1\xd2\xd3\xd4\xd5\xd6\xd7\xd8\xd9\x5a\x5b\x5c\x5d\x5e\x5f" +
		"\x60\x61\xe2\xe3\xe4\xe5\xe6\xe7\xe8\xe9\x6a\x6b\x6c\x6d\x6e\x6f\xf0\xf1\xf2\xf3\xf4\xf5\xf6\xf7\xf8\xf9\x7a\x7b\x7c\x7d\x7e\x7f"
	return codes[n]
}

// to is an address of 12 bits.
func to(n int) string {
	return string([]byte{six(n / 64), six(n % 64)})
}

// checkRead compares what a read returns.
func checkRead(t *testing.T, what string, p []byte, e api.Errno, want string) {
	t.Helper()
	if e != api.OK || string(p) != want {
		t.Fatalf("%s: %x, %d, want %x", what, p, e, want)
	}
}

// checkChanged compares Modified with an Enter and All with a Clear, of which both send the same behind the AID and a cursor at 2.
func checkChanged(t *testing.T, what string, s *space.Space, mode int, want string) {
	t.Helper()
	p, e := read.Modified(s, 0x7d, mode)
	checkRead(t, what+", Modified", p, e, "\x7d\x40\xc2"+want)
	p, e = read.All(s, 0x6d, mode)
	checkRead(t, what+", All", p, e, "\x6d\x40\xc2"+want)
}

// checkBuffer compares the beginning of what Buffer sends behind the AID and a cursor at 2.
func checkBuffer(t *testing.T, what string, s *space.Space, mode int, want string) {
	t.Helper()
	p, e := read.Buffer(s, 0x60, mode)
	want = "\x60\x40\xc2" + want
	if e != api.OK || len(p) < len(want) || string(p[:len(want)]) != want {
		t.Fatalf("%s, Buffer: %.60x, %d, want %x", what, p, e, want)
	}
}

// scatter lays cells out by chance: characters, nulls, orders, and attributes at some of every few positions. Its display attributes are mostly 0 or like those before.
func scatter(r *rand.Rand, s *space.Space, every int) {
	codes := []byte{0, 0, 0, 0x40, 0xc1, 0xc2, 0x11, 0x3c, 0x3f, 0xff}
	look := api.Cell{}
	for n := range s.Size().Cells() {
		switch r.IntN(8) {
		case 0:
			look.High = []byte{0, 0xf0, 0xf4}[r.IntN(3)]
		case 1:
			look.Color = []byte{0, 0xf1, 0xf7}[r.IntN(3)]
		case 2:
			look.Set = []byte{0, 0xf1}[r.IntN(2)]
		}
		c := look
		c.Char = codes[r.IntN(len(codes))]
		if every > 0 && r.IntN(every) == 0 {
			c.Attr, c.FA = true, byte(r.IntN(64))
		}
		s.Set(n, c)
	}
	s.Place(r.IntN(s.Size().Cells()))
}
