package entry_test

import (
	"maps"
	"math"
	"math/rand/v2"
	"slices"
	"testing"

	"vitrine/api"
	"vitrine/entry"
	"vitrine/order"
	"vitrine/read"
)

// P20.1: the chapter's example.
func TestExample(t *testing.T) {
	expect(t, "\x7d\x40\xc2\x11\x40\xc1\xc1\xc2", of(at(1, "\xc1\xc2")), api.OK)
}

// P20.1: data of no bytes up to three.
func TestShort(t *testing.T) {
	expect(t, "", entry.Report{}, api.ErrShort)
	if r, e := entry.Parse(nil); !sameReport(r, entry.Report{}) || e != api.ErrShort {
		t.Errorf("Parse of nil: %v, %d", r, e)
	}
	for i := range 256 {
		aid := byte(i)
		expect(t, string([]byte{aid}), entry.Report{AID: aid, Short: true}, api.OK)
		expect(t, string([]byte{aid, 0x40, 0x40}), entry.Report{AID: aid}, api.OK)
		for _, second := range []byte{0x00, 0x40, 0x80, 0xbf, 0x11, aid} {
			expect(t, string([]byte{aid, second}), entry.Report{}, api.ErrShort)
		}
	}
}

// P20.1: every address of the cursor, of 12 and of 14 bits, and invalid ones, whose error comes first.
func TestCursor(t *testing.T) {
	for i := range 65536 {
		a, b := byte(i>>8), byte(i)
		want, e := entry.Report{AID: 0x7d, Cursor: wantAddress(a, b)}, api.OK
		if want.Cursor < 0 {
			want, e = entry.Report{}, api.ErrAddr
		}
		got, errno := entry.Parse([]byte{0x7d, a, b})
		if !sameReport(got, want) || errno != e {
			t.Fatalf("%02x%02x: %v, %d, want %v, %d", a, b, got, errno, want, e)
		}
	}
	expect(t, "\x7d\x3f\xff", entry.Report{AID: 0x7d, Cursor: 16383}, api.OK)
	for _, rest := range []string{"", "\xc1", "\x11", "\x11\x80\x00", "\x13", "\x08\x08", "\x13\x11"} {
		for _, cursor := range []string{"\x80\x40", "\x80\x80", "\xbf\xff", "\x99\x00"} {
			expect(t, "\x7d"+cursor+rest, entry.Report{}, api.ErrAddr)
		}
	}
}

// P20.1: texts and graphic escapes before any SBA and behind one, SA between them, SBA without characters, and entries of one address.
func TestEntries(t *testing.T) {
	for _, v := range []struct {
		rest string
		l    []entry.Entry
	}{
		{"", nil},
		{"\xc1\xc2", []entry.Entry{at(0, "\xc1\xc2")}},
		{"\x00", []entry.Entry{at(0, "\x00")}},
		{"\x08\xc5", []entry.Entry{at(0, "\xc5")}},
		{"\xc1\x08\xc5\xc2", []entry.Entry{at(0, "\xc1\xc5\xc2")}},
		{"\x08\xc5\xc1\x08\x00\x08\xc4", []entry.Entry{at(0, "\xc5\xc1\x00\xc4")}},
		{"\x28\x42\xf1", nil},
		{"\x28\x42\xf1\x28\x00\x00", nil},
		{"\x28\x42\xf1\xc1\x28\x42\x00\xc2", []entry.Entry{at(0, "\xc1\xc2")}},
		{"\xc1\x28\xc0\x11", []entry.Entry{at(0, "\xc1")}},
		{"\x28\x43\xf1\x11" + to(5) + "\xc1", []entry.Entry{at(5, "\xc1")}},
		{"\x11" + to(5) + "\x28\x43\xf1\xc1\x28\x43\x00\x08\xc5\x28\x41\xf4\xc3", []entry.Entry{at(5, "\xc1\xc5\xc3")}},
		{"\x11" + to(5), []entry.Entry{at(5, "")}},
		{"\x11" + to(0), []entry.Entry{at(0, "")}},
		{"\x11" + to(0) + "\xc1", []entry.Entry{at(0, "\xc1")}},
		{"\x11" + to(5) + "\x28\x42\xf1", []entry.Entry{at(5, "")}},
		{"\x11" + to(5) + "\x11" + to(7) + "\xc1", []entry.Entry{at(5, ""), at(7, "\xc1")}},
		{"\xc1\x11" + to(5) + "\xc2", []entry.Entry{at(0, "\xc1"), at(5, "\xc2")}},
		{"\xc1\x11" + to(0) + "\xc2", []entry.Entry{at(0, "\xc1"), at(0, "\xc2")}},
		{"\x11" + to(5) + "\xc1\x11" + to(5) + "\xc2", []entry.Entry{at(5, "\xc1"), at(5, "\xc2")}},
		{"\x11" + to(9) + "\xc1\x11" + to(5) + "\xc2\x11" + to(4095), []entry.Entry{at(9, "\xc1"), at(5, "\xc2"), at(4095, "")}},
		{"\x11\x00\x51\xc1\x11\x3f\xff\xc2", []entry.Entry{at(81, "\xc1"), at(16383, "\xc2")}},
		{"\x11\x11\x12\xc1", []entry.Entry{at(0x1112, "\xc1")}},
	} {
		expect(t, front+v.rest, of(v.l...), api.OK)
	}
}

// P20.1: each order that is none of a Read Modified, before and behind others.
func TestOtherOrders(t *testing.T) {
	others := []string{"\x05", "\x12\x40\x40", "\x13", "\x1d\x40", "\x29\x00", "\x29\x01\xc0\x40", "\x2c\x00", "\x2c\x01\x42\xf1", "\x3c\x40\x40\xc1", "\x3c\x40\x40\x08\xc5"}
	for _, other := range others {
		for _, before := range []string{"", "\xc1", "\x08\xc5", "\x11\x40\x40", "\x28\x42\xf1", "\x11\x40\x40\xc1"} {
			for _, behind := range []string{"", "\xc1", "\x11\x40\x40\xc1", "\x13"} {
				expect(t, front+before+other+behind, entry.Report{}, api.ErrForm)
			}
			// What cannot be parsed is told first, wherever it is.
			for behind, e := range map[string]api.Errno{"\x11": api.ErrShort, "\x11\x40": api.ErrShort, "\x08": api.ErrShort, "\x28\x42": api.ErrShort,
				"\x11\x80\x40": api.ErrAddr, "\x28\x42\xf8": api.ErrOrder, "\x08\x08": api.ErrOrder, "\x1d": api.ErrShort, "\x29\x01\x99\x00": api.ErrOrder} {
				expect(t, front+before+other+behind, entry.Report{}, e)
				expect(t, front+before+behind, entry.Report{}, e)
			}
		}
	}
}

// wantReport is the report of a list of orders, as the chapter tells it, or ErrForm.
func wantReport(l []order.Op) (entry.Report, api.Errno) {
	r := of()
	for _, o := range l {
		if o.Kind == order.SBA {
			r.Entries = append(r.Entries, at(o.Addr, ""))
			continue
		}
		codes := slices.Clone(o.Text)
		switch o.Kind {
		case order.GE:
			codes = []byte{o.Code}
		case order.SA:
			continue
		case order.Text:
		default:
			return entry.Report{}, api.ErrForm
		}
		if len(r.Entries) == 0 {
			r.Entries = append(r.Entries, at(0, ""))
		}
		n := len(r.Entries) - 1
		r.Entries[n].Text = append(r.Entries[n].Text, codes...)
	}
	return r, api.OK
}

// P20.1: bytes by chance; with an error Parse returns that of layer 16 first.
func TestRandomBytes(t *testing.T) {
	r := rand.New(rand.NewPCG(20, 1))
	for _, from := range []string{
		"\x08\x11\x28\x40\x40\xc1\xc1\xc2\xc5\x42\xf1\x00",
		"\x05\x08\x11\x12\x13\x1d\x28\x29\x2c\x3c\x00\x01\x40\x41\x42\x43\xc0\xc1\xf1\xf2\x80\xff",
	} {
		for range 20000 {
			p := []byte(front)
			for range r.IntN(16) {
				p = append(p, from[r.IntN(len(from))])
			}
			l, _, e := order.All(p[3:])
			want := entry.Report{}
			if e == api.OK {
				want, e = wantReport(l)
			}
			expect(t, string(p), want, e)
			if len(want.Entries) > 0 && e == api.OK {
				expectAgain(t, want)
			}
		}
	}
}

// expectAgain encodes a report and parses it again.
func expectAgain(t *testing.T, r entry.Report) {
	t.Helper()
	p, e := entry.Bytes(r)
	if slices.ContainsFunc(r.Entries, func(one entry.Entry) bool { return one.Addr > 4095 }) {
		if len(p) != 0 || e != api.ErrAddr {
			t.Fatalf("Bytes of %v: %x, %d", r, p, e)
		}
		return
	}
	if e != api.OK {
		t.Fatalf("Bytes of %v: %d", r, e)
	}
	expect(t, string(p), r, api.OK)
}

// P20.1: the data of reports.
func TestBytes(t *testing.T) {
	for i := range 256 {
		aid := byte(i)
		one := string([]byte{aid})
		expectBytes(t, entry.Report{AID: aid, Short: true}, one, api.OK)
		expectBytes(t, entry.Report{AID: aid}, one+"\x40\x40", api.OK)
		expectBytes(t, entry.Report{AID: aid, Cursor: 81}, one+"\xc1\xd1", api.OK)
		// What a short one has besides is ignored, also where it is invalid.
		expectBytes(t, entry.Report{AID: aid, Short: true, Cursor: -1, Entries: []entry.Entry{at(4096, "\x11")}}, one, api.OK)
		expectBytes(t, entry.Report{AID: aid, Short: true, Cursor: 5, Entries: []entry.Entry{at(5, "\xc1")}}, one, api.OK)
	}
	for _, v := range []struct {
		l    []entry.Entry
		want string
	}{
		{nil, ""},
		{[]entry.Entry{}, ""},
		{[]entry.Entry{at(0, "\xc1\xc2")}, "\xc1\xc2"},
		{[]entry.Entry{at(0, "")}, "\x11" + to(0)},
		{[]entry.Entry{{}}, "\x11" + to(0)},
		{[]entry.Entry{at(1, "\xc1")}, "\x11" + to(1) + "\xc1"},
		{[]entry.Entry{at(1, "")}, "\x11" + to(1)},
		{[]entry.Entry{at(4095, "\x00\xff\x3f")}, "\x11" + to(4095) + "\x00\xff\x3f"},
		{[]entry.Entry{at(0, "\xc1"), at(0, "\xc2")}, "\x11" + to(0) + "\xc1\x11" + to(0) + "\xc2"},
		{[]entry.Entry{at(0, ""), at(0, "\xc2")}, "\x11" + to(0) + "\x11" + to(0) + "\xc2"},
		{[]entry.Entry{at(0, "\xc1"), at(5, "")}, "\x11" + to(0) + "\xc1\x11" + to(5)},
		{[]entry.Entry{at(5, "\xc1"), at(0, "\xc2")}, "\x11" + to(5) + "\xc1\x11" + to(0) + "\xc2"},
		{[]entry.Entry{at(9, "\xc1"), at(9, "\xc2"), at(3, "")}, "\x11" + to(9) + "\xc1\x11" + to(9) + "\xc2\x11" + to(3)},
	} {
		expectBytes(t, of(v.l...), front+v.want, api.OK)
	}
	for n := range 4096 {
		expectBytes(t, entry.Report{AID: 0x7d, Cursor: n, Entries: []entry.Entry{at(n, ""), at(n, "A")}}, "\x7d"+to(n)+"\x11"+to(n)+"\x11"+to(n)+"A", api.OK)
	}
}

// P20.1: invalid addresses and texts: the cursor's comes first, then that of the first entry that has one, and of one entry that of its address.
func TestBytesErrors(t *testing.T) {
	good, bad, far := at(5, "A"), at(5, "A\x11"), at(4096, "A")
	for _, n := range []int{-1, 4096, 4097, 16383, 65536, -4096, 1 << 32, math.MinInt, math.MaxInt} {
		for _, l := range [][]entry.Entry{nil, {good}, {bad}, {far}, {bad, far}} {
			expectBytes(t, entry.Report{AID: 0x7d, Cursor: n, Entries: l}, "", api.ErrAddr)
		}
		for _, l := range [][]entry.Entry{{at(n, "")}, {at(n, "A")}, {at(n, "\x11")}, {good, at(n, "A")}, {at(n, "A"), bad}, {good, at(n, "\x13"), bad}, {at(n, ""), at(n, "")}} {
			expectBytes(t, of(l...), "", api.ErrAddr)
		}
	}
	for b := range 256 {
		code := byte(b)
		for _, text := range []string{string([]byte{code}), "AB" + string([]byte{code}), string([]byte{code}) + "AB", "A" + string([]byte{code}) + "B"} {
			if !isOrder(code) {
				expectBytes(t, of(at(0, text)), front+text, api.OK)
				expectBytes(t, of(at(5, text), good), front+"\x11"+to(5)+text+"\x11"+to(5)+"A", api.OK)
				continue
			}
			for _, l := range [][]entry.Entry{{at(0, text)}, {at(5, text)}, {good, at(5, text)}, {at(5, text), good}, {at(5, text), far}, {good, at(0, text), far, good}} {
				expectBytes(t, of(l...), "", api.ErrOrder)
			}
			expectBytes(t, of(good, far, at(5, text)), "", api.ErrAddr)
		}
	}
}

// P20.1: what is read from screens by chance is parsed, and encoded as it was; without fields all is one entry.
func TestReadAndParse(t *testing.T) {
	r := rand.New(rand.NewPCG(20, 11))
	for _, every := range []int{0, 1, 3, 20, 500} {
		for model := 2; model <= 5; model++ {
			s := newScreen(t, model, model%2 == 0)
			scatter(r, s, every, false)
			for mode := range 3 {
				p, _ := read.Modified(s, 0x7d, mode)
				got, e := entry.Parse(p)
				if e != api.OK || got.AID != 0x7d || got.Cursor != s.Cursor() || got.Short {
					t.Fatalf("%.80x: %.80v, %d", p, got, e)
				}
				if every == 0 && (len(got.Entries) != 1 || got.Entries[0].Addr != 0) {
					t.Fatalf("without fields: %.80v", got)
				}
				expectAgain(t, got)
				p, _ = read.Modified(s, 0x6c, mode)
				expect(t, string(p), entry.Report{AID: 0x6c, Short: true}, api.OK)
			}
		}
	}
}

// P20.1: Entries is left before its end, and may be ranged over again.
func TestEntriesLeft(t *testing.T) {
	each := entry.Entries([]byte(front + "\xc1\x11" + to(5) + "\xc2\x11" + to(7) + "\x11" + to(9) + "\xc3"))
	want := []entry.Entry{at(0, "\xc1"), at(5, "\xc2"), at(7, ""), at(9, "\xc3")}
	for stop := range 5 {
		var got []entry.Entry
		for n, text := range each {
			if len(got) == stop {
				break
			}
			got = append(got, entry.Entry{Addr: n, Text: text})
		}
		if !slices.EqualFunc(got, want[:stop], sameEntry) {
			t.Errorf("the first %d are %v", stop, got)
		}
	}
	calls := 0
	each(func(int, []byte) bool { calls++; return calls < 2 })
	if calls != 2 {
		t.Errorf("%d calls", calls)
	}
	for range entry.Entries(nil) {
		t.Error("nothing has an entry")
	}
}

// P20.2: the texts of the entries on several pages, and on page 37 without one; of one address the last counts.
func TestValues(t *testing.T) {
	r := of(at(5, "\xc1\x82\x4a\xc0"), at(0, "\xc2"), at(5000, ""), at(-3, "\x5a"), at(7, "\x00\x9f"))
	for _, v := range []struct {
		number int
		want   map[int]string
	}{
		{37, map[int]string{5: "Ab¢{", 0: "B", 5000: "", -3: "!", 7: "\x00¤"}},
		{0, map[int]string{5: "Ab¢{", 0: "B", 5000: "", -3: "!", 7: "\x00¤"}},
		{273, map[int]string{5: "AbÄä", 0: "B", 5000: "", -3: "Ü", 7: "\x00¤"}},
		{1140, map[int]string{5: "Ab¢{", 0: "B", 5000: "", -3: "!", 7: "\x00€"}},
	} {
		got := entry.Values(r, nil)
		if v.number != 0 {
			got = entry.Values(r, newPage(t, v.number))
		}
		if !maps.Equal(got, v.want) {
			t.Errorf("page %d: %v, want %v", v.number, got, v.want)
		}
	}
	for _, v := range []struct {
		l    []entry.Entry
		want map[int]string
	}{
		{nil, nil},
		{[]entry.Entry{{}}, map[int]string{0: ""}},
		{[]entry.Entry{at(5, "\xc1"), at(5, "\xc2")}, map[int]string{5: "B"}},
		{[]entry.Entry{at(5, "\xc1"), at(6, "\xc3"), at(5, "")}, map[int]string{5: "", 6: "C"}},
		{[]entry.Entry{at(5, ""), at(5, "\xc1\xc2"), at(5, "\xc1")}, map[int]string{5: "A"}},
	} {
		for range 2 {
			got := entry.Values(of(v.l...), nil)
			if !maps.Equal(got, v.want) {
				t.Errorf("%v: %v, want %v", v.l, got, v.want)
			}
			clear(got)
		}
	}
	if got := entry.Values(entry.Report{}, nil); len(got) != 0 {
		t.Errorf("of nothing: %v", got)
	}
	every := make([]byte, 256)
	for i := range every {
		every[i] = byte(i)
	}
	for _, number := range []int{37, 273, 297, 500, 1047, 1140} {
		p := newPage(t, number)
		if got := entry.Values(of(entry.Entry{Addr: 3, Text: every}), p); !maps.Equal(got, map[int]string{3: p.Text(every)}) {
			t.Errorf("page %d: %v", number, got)
		}
	}
}
