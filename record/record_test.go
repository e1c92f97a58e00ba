package record_test

import (
	"bytes"
	"math"
	"slices"
	"testing"

	"vitrine/api"
	"vitrine/record"
	"vitrine/telnet"
)

// equal holds records against each other; an empty slice is equal to none.
func equal(a, b []record.Record) bool {
	return slices.EqualFunc(a, b, same)
}

func same(a, b record.Record) bool {
	return bytes.Equal(a.Data, b.Data) && a.Long == b.Long
}

func whole(s string) record.Record {
	return record.Record{Data: []byte(s)}
}

func long(s string) record.Record {
	return record.Record{Data: []byte(s), Long: true}
}

// numbered has n bytes that tell their places.
func numbered(n int) []byte {
	p := make([]byte, n)
	for i := range p {
		p[i] = byte(i*7 + i/256)
	}
	return p
}

// overwrite fills a slice and its spare capacity.
func overwrite(p []byte) {
	p = p[:cap(p)]
	for i := range p {
		p[i] = 0x99
	}
}

// wanted is the record of some data.
func wanted(p []byte) record.Record {
	if len(p) > 8192 {
		return long(string(p[:5]))
	}
	return whole(string(p))
}

// addAll adds p in pieces, and checks the size after each.
func addAll(t *testing.T, m *record.Maker, p []byte, size int) {
	t.Helper()
	for from := 0; from < len(p); from += size {
		to := min(from+size, len(p))
		m.Add(p[from:to])
		if m.Size() != min(to, 8193) {
			t.Fatalf("Size is %d after %d bytes", m.Size(), to)
		}
	}
}

// P7.1: records of all sizes around the limits, in pieces of any size, with one maker.
func TestMaker(t *testing.T) {
	m := record.NewMaker()
	for _, n := range []int{0, 1, 4, 5, 6, 8191, 8192, 8193, 8194, 8197, 16384, 30000, 3, 0} {
		for _, size := range []int{1, 3, 5, 4096, 8192, 8193, 40000} {
			p := numbered(n)
			if m.Size() != 0 {
				t.Fatalf("Size is %d at the beginning", m.Size())
			}
			addAll(t, m, p, size)
			if got := m.End(); !same(got, wanted(p)) {
				t.Errorf("%d bytes in pieces of %d: %d bytes, long %v", n, size, len(got.Data), got.Long)
			}
		}
	}
	if api.MaxRecord != 8192 {
		t.Error(api.MaxRecord)
	}
}

// P7.1: the first five bytes of a long record are those of the whole of it, wherever it was split.
func TestBeginningOfLongRecords(t *testing.T) {
	p := numbered(9000)
	for cut := range 12 {
		m := record.NewMaker()
		m.Add(p[:cut])
		m.Add(p[cut:])
		m.Add([]byte("more"))
		if m.Size() != 8193 {
			t.Errorf("cut at %d: Size is %d", cut, m.Size())
		}
		if got := m.End(); !same(got, long(string(p[:5]))) {
			t.Errorf("cut at %d: %x, long %v", cut, got.Data, got.Long)
		}
	}
}

// P7.1: each End begins anew, and so does Drop, also after a long record.
func TestEndAndDrop(t *testing.T) {
	m := record.NewMaker()
	if got := m.End(); !same(got, record.Record{}) {
		t.Error(got)
	}
	m.Add([]byte("ab"))
	m.Add([]byte("\xff"))
	if got := m.End(); !same(got, whole("ab\xff")) {
		t.Error(got)
	}
	if got := m.End(); !same(got, record.Record{}) || m.Size() != 0 {
		t.Error(got)
	}
	for _, n := range []int{0, 2, 8192, 8193, 9000} {
		m.Add(numbered(n))
		m.Drop()
		if m.Size() != 0 {
			t.Errorf("Size is %d after Drop", m.Size())
		}
		m.Add([]byte("c"))
		if got := m.End(); !same(got, whole("c")) {
			t.Errorf("after %d bytes and Drop: %v", n, got)
		}
		m.Add(numbered(n))
		m.End()
		m.Add([]byte("d"))
		if got := m.End(); !same(got, whole("d")) {
			t.Errorf("after %d bytes and End: %v", n, got)
		}
	}
	m.Drop()
	m.Drop()
	if got := m.End(); !same(got, record.Record{}) {
		t.Error(got)
	}
}

// P7.1, P1: no data, and no maker.
func TestNoDataAndNoMaker(t *testing.T) {
	m := record.NewMaker()
	m.Add(nil)
	m.Add([]byte{})
	if m.Size() != 0 {
		t.Error(m.Size())
	}
	m.Add(numbered(8192))
	m.Add(nil)
	m.Add([]byte{})
	if m.Size() != 8192 {
		t.Error(m.Size())
	}
	if got := m.End(); got.Long || len(got.Data) != 8192 {
		t.Error(len(got.Data), got.Long)
	}
	var none *record.Maker
	none.Add([]byte("a"))
	none.Add(nil)
	none.Drop()
	if got := none.End(); !same(got, record.Record{}) || none.Size() != 0 {
		t.Error(got)
	}
}

// P2: makers do not hang on each other.
func TestTwoMakers(t *testing.T) {
	a, b := record.NewMaker(), record.NewMaker()
	a.Add([]byte("a"))
	b.Add(numbered(9000))
	a.Add([]byte("c"))
	if got := a.End(); !same(got, whole("ac")) || a.Size() != 0 || b.Size() != 8193 {
		t.Error(got)
	}
}

// The rule of memory: a maker keeps nothing of what it was given, and changes nothing of it.
func TestArgumentsOfAdd(t *testing.T) {
	for _, n := range []int{3, 8192, 8200} {
		room := numbered(n + 100)
		before := bytes.Clone(room)
		m := record.NewMaker()
		m.Add(room[:n])
		m.Add([]byte("z"))
		if !bytes.Equal(room, before) {
			t.Errorf("%d bytes: the argument of Add became another", n)
		}
		overwrite(room)
		if got := m.End(); !same(got, wanted(append(before[:n:n], 'z'))) {
			t.Errorf("%d bytes: %d bytes, long %v", n, len(got.Data), got.Long)
		}
	}
}

// The rule of memory: a record is new memory with its spare capacity, and a long one has none that shows the rest.
func TestResultsOfEnd(t *testing.T) {
	for _, n := range []int{1, 3, 8192, 8193, 9000} {
		m := record.NewMaker()
		m.Add(numbered(n))
		first := m.End()
		m.Add([]byte("abcdefgh"))
		overwrite(first.Data)
		second := m.End()
		m.Add(numbered(9000))
		overwrite(first.Data)
		if !same(second, whole("abcdefgh")) {
			t.Errorf("after %d bytes: %x", n, second.Data)
		}
		if first.Long && cap(first.Data) != 5 {
			t.Errorf("a long record has the capacity %d", cap(first.Data))
		}
	}
}

// P7.2: a record as it is sent.
func TestBytes(t *testing.T) {
	for p, want := range map[string]string{
		"": "\xff\xef", "a": "a\xff\xef", "\xff": "\xff\xff\xff\xef", "\xff\xef": "\xff\xff\xef\xff\xef", "\xff\x01\xff\xff": "\xff\xff\x01\xff\xff\xff\xff\xff\xef",
	} {
		if got := record.Bytes([]byte(p)); string(got) != want {
			t.Errorf("Bytes(%x) is %x", p, got)
		}
	}
	if got := record.Bytes(nil); string(got) != "\xff\xef" {
		t.Errorf("Bytes(nil) is %x", got)
	}
	if got := record.Bytes(numbered(9000)); !bytes.Equal(got, append(telnet.Escape(numbered(9000)), 0xff, 0xef)) {
		t.Errorf("Bytes of 9000 bytes has %d", len(got))
	}
}

// The rule of memory: Bytes has its own.
func TestMemoryOfBytes(t *testing.T) {
	for _, s := range []string{"abc", "a\xffc"} {
		room := []byte(s + "\x99\x99\x99\x99\x99\x99")
		before := bytes.Clone(room)
		first, second := record.Bytes(room[:3]), record.Bytes(room[:3])
		want := bytes.Clone(second)
		if !bytes.Equal(room, before) {
			t.Errorf("the argument of Bytes became %x", room)
		}
		overwrite(first)
		overwrite(room)
		if !bytes.Equal(second, want) {
			t.Errorf("Bytes became %x", second)
		}
	}
}

// P7.2: the records of streams, by fixed answers.
func TestRecords(t *testing.T) {
	for _, c := range []struct {
		stream string
		want   []record.Record
	}{
		{"", nil},
		{"abc", nil},
		{"a\xff\xff\xff\xefb", []record.Record{whole("a\xff")}},
		{"a\xff\xff\xef", nil},
		{"\xff\xef", []record.Record{whole("")}},
		{"\xff\xef\xff\xefa\xff\xef", []record.Record{whole(""), whole(""), whole("a")}},
		{"a\xff\xf1b\xff\xfb\x19c\xff\xfa\x18\x01\xff\xf0d\xff\x00\xff\xef", []record.Record{whole("abcd")}},
		{"a\xff\xfd\xefb\xff\xef", []record.Record{whole("ab")}},
		{"a\xff\xfa\xefb\xff\xf0c\xff\xef", []record.Record{whole("ac")}},
		{"a\xff\xfa\x18b\xff\xefc\xff\xef", []record.Record{whole("a"), whole("c")}},
		{"a\xff\xfa\x18\xff\xff\xef\xff\xf0\xff\xef", []record.Record{whole("a")}},
		{"\xefa\xff\xef\xef", []record.Record{whole("\xefa")}},
		{"a\xff\xefb\xff", []record.Record{whole("a")}},
		{"a\xff\xefb\xff\xfa\x18", []record.Record{whole("a")}},
	} {
		if got := slices.Collect(record.Records([]byte(c.stream))); !equal(got, c.want) {
			t.Errorf("Records(%x): %v", c.stream, got)
		}
	}
	for r := range record.Records(nil) {
		t.Error(r)
	}
}

// P7.2: what was sent comes back, long records only with their beginning; a doubled ff is one byte.
func TestRecordsOfManySizes(t *testing.T) {
	var stream []byte
	var want []record.Record
	for _, n := range []int{0, 1, 5, 8191, 8192, 8193, 2, 8194, 20000, 300, 0} {
		for _, p := range [][]byte{numbered(n), bytes.Repeat([]byte{0xff}, n)} {
			stream = append(stream, record.Bytes(p)...)
			want = append(want, wanted(p))
		}
	}
	got := slices.Collect(record.Records(append(stream, 'z')))
	if !equal(got, want) {
		t.Errorf("%d records, want %d", len(got), len(want))
	}
}

// P7.2: a record that is long by pieces with other elements between them.
func TestLongRecordAmongElements(t *testing.T) {
	p := append(numbered(4), "\xff\xf1"...)
	p = append(p, bytes.Repeat([]byte{'x'}, 8188)...)
	short := append(bytes.Clone(p), "\xff\xfb\x18\xff\xef"...)
	if got := slices.Collect(record.Records(short)); !equal(got, []record.Record{wanted(append(numbered(4), bytes.Repeat([]byte{'x'}, 8188)...))}) {
		t.Error(len(got))
	}
	p = append(p, "\xff\xfb\x18\xff\xff\xff\xefa\xff\xef"...)
	if got := slices.Collect(record.Records(p)); !equal(got, []record.Record{long(string(append(numbered(4), 'x'))), whole("a")}) {
		t.Error(got)
	}
}

// P7.2, P6.3: a maker that is fed with a stream in two pieces makes the records of the whole.
func TestSplitStreamsMakeTheSameRecords(t *testing.T) {
	p := []byte("a\xff\xff\xff\xfb\x18b\xff\xef\xff\xfa\x18\x01\xff\xefc\xff\xfa\x18\xff\xf0\xff\xffd\xff\xefe")
	want := []record.Record{whole("a\xffb"), whole(""), whole("c\xffd")}
	if got := slices.Collect(record.Records(p)); !equal(got, want) {
		t.Fatal(got)
	}
	for cut := range p {
		r, m := telnet.NewReader(), record.NewMaker()
		var got []record.Record
		for _, e := range append(r.Feed(p[:cut]), r.Feed(p[cut:])...) {
			if e.Kind == telnet.Data {
				m.Add(e.Data)
			}
			if e.Kind == telnet.Command && e.Verb == 0xef {
				got = append(got, m.End())
			}
		}
		if !equal(got, want) || m.Size() != 1 {
			t.Errorf("cut at %d: %v", cut, got)
		}
	}
}

// The rules of iterators and of memory: the same each time, nothing after a stop, nothing shared.
func TestRecordsAgainAndStopped(t *testing.T) {
	room := append([]byte("a\xff\xefbc\xff\xef\xff\xef"), record.Bytes(numbered(9000))...)
	before := bytes.Clone(room)
	want := []record.Record{whole("a"), whole("bc"), whole(""), long(string(numbered(5)))}
	records := record.Records(room)
	if !bytes.Equal(room, before) {
		t.Error("the argument of Records became another")
	}
	overwrite(room)
	for range 2 {
		var got []record.Record
		for r := range records {
			got = append(got, record.Record{Data: bytes.Clone(r.Data), Long: r.Long})
			overwrite(r.Data)
		}
		if !equal(got, want) {
			t.Error(got)
		}
	}
	for stop := range want {
		var got []record.Record
		for r := range records {
			got = append(got, r)
			if len(got) == stop+1 {
				break
			}
		}
		if !equal(got, want[:stop+1]) {
			t.Errorf("stopped after %d: %v", stop+1, got)
		}
	}
}

// P7.2: pieces of every size.
func TestSplit(t *testing.T) {
	for n := range 20 {
		p := numbered(n)
		for _, size := range []int{1, 2, 3, 4, 5, 6, 7, 18, 19, 20, 1 << 31, math.MaxInt - 1, math.MaxInt} {
			var want []string
			for from := 0; from < n; from++ {
				if from%size == 0 {
					want = append(want, "")
				}
				want[len(want)-1] += string(p[from : from+1])
			}
			var got []string
			for piece := range record.Split(p, size) {
				got = append(got, string(piece))
			}
			if !slices.Equal(got, want) {
				t.Errorf("Split of %d bytes by %d: %q", n, size, got)
			}
		}
	}
}

// P7.2 by fixed answers, and sizes that give nothing.
func TestSplitExamples(t *testing.T) {
	var got []string
	for piece := range record.Split([]byte("abcde"), 2) {
		got = append(got, string(piece))
	}
	if !slices.Equal(got, []string{"ab", "cd", "e"}) {
		t.Error(got)
	}
	for _, size := range []int{0, -1, -5, math.MinInt} {
		for piece := range record.Split([]byte("abc"), size) {
			t.Fatalf("Split by %d: %x", size, piece)
		}
	}
	for _, size := range []int{-1, 0, 1, 5, math.MaxInt} {
		for piece := range record.Split(nil, size) {
			t.Errorf("Split(nil, %d): %x", size, piece)
		}
		for piece := range record.Split([]byte{}, size) {
			t.Errorf("Split of nothing by %d: %x", size, piece)
		}
	}
}

// The rules of iterators and of memory for Split.
func TestSplitAgainAndStopped(t *testing.T) {
	room := []byte("abcdefgh\x98\x98\x98\x98")
	want := []string{"abc", "def", "gh"}
	pieces := record.Split(room[:8], 3)
	if string(room) != "abcdefgh\x98\x98\x98\x98" {
		t.Errorf("the argument of Split became %x", room)
	}
	overwrite(room)
	for range 2 {
		var got []string
		for piece := range pieces {
			got = append(got, string(piece))
			overwrite(piece)
		}
		if !slices.Equal(got, want) {
			t.Errorf("Split: %q", got)
		}
	}
	if string(room) != "\x99\x99\x99\x99\x99\x99\x99\x99\x99\x99\x99\x99" {
		t.Errorf("the argument of Split became %x", room)
	}
	for stop := range want {
		var got []string
		for piece := range pieces {
			got = append(got, string(piece))
			if len(got) == stop+1 {
				break
			}
		}
		if !slices.Equal(got, want[:stop+1]) {
			t.Errorf("stopped after %d: %q", stop+1, got)
		}
	}
}
