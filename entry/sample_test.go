package entry_test

import (
	"bytes"
	"math/rand/v2"
	"slices"
	"testing"

	"vitrine/api"
	"vitrine/entry"
	"vitrine/page"
	"vitrine/space"
)

// front is an Enter, and a cursor at 2.
const front = "\x7d\x40\xc2"

// newPage makes a page that there is.
func newPage(t *testing.T, number int) *page.Page {
	t.Helper()
	p, e := page.New(number)
	if e != api.OK {
		t.Fatal(e)
	}
	return p
}

// newScreen makes an empty space of a model, with its alternate or the default size.
func newScreen(t *testing.T, model int, alternate bool) *space.Space {
	t.Helper()
	s, e := space.New(model)
	if e != api.OK {
		t.Fatal(e)
	}
	s.Clear(alternate)
	return s
}

// isOrder lists the bytes of orders as the document does.
func isOrder(b byte) bool {
	return bytes.IndexByte([]byte("\x05\x08\x11\x12\x13\x1d\x28\x29\x2c\x3c"), b) >= 0
}

// to is an address of 12 bits, in the six-bit codes that the document lists.
func to(n int) string {
	codes := "\x40\xc1\xc2\xc3\xc4\xc5\xc6\xc7\xc8\xc9\x4a\x4b\x4c\x4d\x4e\x4f\x50\xd1\xd2\xd3\xd4\xd5\xd6\xd7\xd8\xd9\x5a\x5b\x5c\x5d\x5e\x5f" +
		"\x60\x61\xe2\xe3\xe4\xe5\xe6\xe7\xe8\xe9\x6a\x6b\x6c\x6d\x6e\x6f\xf0\xf1\xf2\xf3\xf4\xf5\xf6\xf7\xf8\xf9\x7a\x7b\x7c\x7d\x7e\x7f"
	return string([]byte{codes[n/64], codes[n%64]})
}

// to14 is an address of 14 bits.
func to14(n int) string {
	return string([]byte{byte(n >> 8), byte(n)})
}

// wantAddress is the number of an address of 12 or 14 bits, or -1.
func wantAddress(a, b byte) int {
	switch a / 64 {
	case 0:
		return int(a)*256 + int(b)
	case 1, 3:
		return int(a)%64*64 + int(b)%64
	}
	return -1
}

// at is an entry.
func at(n int, text string) entry.Entry {
	return entry.Entry{Addr: n, Text: []byte(text)}
}

// of is the report of an Enter with the cursor at 2.
func of(l ...entry.Entry) entry.Report {
	return entry.Report{AID: 0x7d, Cursor: 2, Entries: l}
}

func sameEntry(a, b entry.Entry) bool {
	return a.Addr == b.Addr && bytes.Equal(a.Text, b.Text)
}

func sameReport(a, b entry.Report) bool {
	return a.AID == b.AID && a.Short == b.Short && a.Cursor == b.Cursor && slices.EqualFunc(a.Entries, b.Entries, sameEntry)
}

// entriesOf collects what Entries yields.
func entriesOf(p []byte) []entry.Entry {
	var l []entry.Entry
	for n, text := range entry.Entries(p) {
		l = append(l, entry.Entry{Addr: n, Text: text})
	}
	return l
}

// expect compares Parse and Entries with what they should return; beside an error that is nothing.
func expect(t *testing.T, p string, want entry.Report, e api.Errno) {
	t.Helper()
	if got, errno := entry.Parse([]byte(p)); !sameReport(got, want) || errno != e {
		t.Fatalf("Parse of %.80x: %v, %d, want %v, %d", p, got, errno, want, e)
	}
	if got := entriesOf([]byte(p)); !slices.EqualFunc(got, want.Entries, sameEntry) {
		t.Fatalf("Entries of %.80x: %v, want %v", p, got, want.Entries)
	}
}

// expectBytes compares what Bytes returns; without an error, Parse is to return the report again.
func expectBytes(t *testing.T, r entry.Report, want string, e api.Errno) {
	t.Helper()
	p, errno := entry.Bytes(r)
	if string(p) != want || errno != e {
		t.Fatalf("Bytes of %v: %x, %d, want %x, %d", r, p, errno, want, e)
	}
	if e == api.OK && !r.Short {
		expect(t, want, r, api.OK)
	}
}

// expectCells compares what Buffer returns.
func expectCells(t *testing.T, p string, want []api.Cell, cursor int, e api.Errno) {
	t.Helper()
	l, n, errno := entry.Buffer([]byte(p))
	if !slices.Equal(l, want) || n != cursor || errno != e {
		t.Fatalf("Buffer of %.80x: %v, %d, %d, want %v, %d, %d", p, l, n, errno, want, cursor, e)
	}
}

// expectReplay compares what Replay returns, with both sizes.
func expectReplay(t *testing.T, p, orders string, e api.Errno) {
	t.Helper()
	for _, alternate := range []bool{false, true} {
		want := ""
		if e == api.OK {
			want = map[bool]string{false: "\xf5\x40", true: "\x7e\x40"}[alternate] + orders
		}
		got, errno := entry.Replay([]byte(p), alternate)
		if string(got) != want || errno != e {
			t.Fatalf("Replay of %.80x: %x, %d, want %x, %d", p, got, errno, want, e)
		}
	}
}

// scatter lays out by chance what a host can write, and codes that are the bytes of orders, too, unless plain is true.
func scatter(r *rand.Rand, s *space.Space, every int, plain bool) {
	look := api.Cell{}
	for n := range s.Size().Cells() {
		switch r.IntN(8) {
		case 0:
			look.High = []byte{0, 0xf0, 0xf1, 0xf2, 0xf4, 0xf8}[r.IntN(6)]
		case 1:
			look.Color = []byte{0, 0xf1, 0xf2, 0xf7}[r.IntN(4)]
		case 2:
			look.Set = []byte{0, 0xf1}[r.IntN(2)]
		}
		c := look
		c.Char = byte(r.IntN(256))
		if r.IntN(3) == 0 || plain && isOrder(c.Char) {
			c.Char = 0
		}
		if every > 0 && r.IntN(every) == 0 {
			c.Attr, c.FA = true, byte(r.IntN(64))
		}
		s.Set(n, c)
	}
	s.Place(r.IntN(s.Size().Cells()))
}

// overwrite fills a slice and its spare capacity.
func overwrite(p []byte) {
	p = p[:cap(p)]
	for i := range p {
		p[i] = 0x99
	}
}

// spare returns a copy with capacity that holds other bytes.
func spare(s string) []byte {
	return append([]byte(s), "\x11\x40\x40AB\x13"...)[:len(s)]
}
