package host_test

import (
	"fmt"
	"maps"
	"math"
	"math/rand/v2"
	"slices"
	"testing"

	"vitrine/addr"
	"vitrine/api"
	"vitrine/attr"
	"vitrine/entry"
	"vitrine/host"
	"vitrine/keys"
	"vitrine/page"
	"vitrine/term"
)

// report has these entries, one after the other.
func report(l ...entry.Entry) entry.Report {
	return entry.Report{AID: 0x7d, Cursor: 7, Entries: l}
}

func at(n int, codes string) entry.Entry {
	return entry.Entry{Addr: n, Text: []byte(codes)}
}

func expectAnswers(t *testing.T, f host.Form, r entry.Report, s addr.Size, p *page.Page, want map[int]string) {
	t.Helper()
	if got := f.Answers(r, s, p); !maps.Equal(got, want) {
		t.Fatalf("Answers of %.200s, %.200s on %v: %.200s, want %.200s", fmt.Sprint(f), fmt.Sprint(r), s, fmt.Sprint(got), fmt.Sprint(want))
	}
}

// P24.1: entries at the items and elsewhere, several at one item, and none.
func TestAnswers(t *testing.T) {
	p := newPage(t, 37)
	f := only(host.Item{Text: "not this"}, host.Item{Row: 1, Col: 2}, host.Item{Row: 23, Col: 79}, host.Item{Row: 1, Col: 2, Field: attr.Field{Protected: true}})
	for _, c := range []struct {
		r    entry.Report
		want map[int]string
	}{
		{entry.Report{}, nil},
		{report(), nil},
		{report(at(1, "\xc1\xc2")), map[int]string{0: "AB"}},
		{report(at(83, "\xc1")), map[int]string{1: "A", 3: "A"}},
		{report(at(0, "\xe9\xe8")), map[int]string{2: "ZY"}},
		{report(at(0, "\xc1"), at(1, "\xc2"), at(83, "\xc3")), map[int]string{0: "B", 1: "C", 2: "A", 3: "C"}},
		{report(at(83, "\xc3"), at(1, "\xc2"), at(0, "\xc1")), map[int]string{0: "B", 1: "C", 2: "A", 3: "C"}},
		// Of several entries the last one counts, also one without a text.
		{report(at(1, "\xc1"), at(1, "\xc2")), map[int]string{0: "B"}},
		{report(at(1, "\xc1"), at(0, "\xc4"), at(1, "\xc2\xc3"), at(83, "")), map[int]string{0: "BC", 1: "", 2: "D", 3: ""}},
		{report(at(1, "\xc1"), at(1, "")), map[int]string{0: ""}},
		{report(at(1, "")), map[int]string{0: ""}},
		// Elsewhere: at the attributes, beside the items, and off the screen.
		{report(at(82, "\xc1"), at(1919, "\xc1"), at(2, "\xc1"), at(84, "\xc1")), nil},
		{report(at(1920, "\xc1"), at(1921, "\xc1"), at(-1, "\xc1"), at(-1919, "\xc1"), at(2003, "\xc1"), at(4095, "\xc1"), at(math.MinInt, "\xc1"), at(math.MaxInt, "\xc1")), nil},
		{report(at(1, "\xc1"), at(1921, "\xc2"), at(-1919, "\xc3")), map[int]string{0: "A"}},
		{entry.Report{AID: 0x6d, Short: true}, nil},
		// As layer 20's Values, Answers goes by the entries alone.
		{entry.Report{Short: true, Cursor: -1, Entries: []entry.Entry{at(1, "\xc1")}}, map[int]string{0: "A"}},
	} {
		expectAnswers(t, f, c.r, usual, p, c.want)
		expectAnswers(t, host.Form{Items: f.Items, Erase: true, Alternate: true, Restore: true, Alarm: true, Unmodify: true}, c.r, usual, p, c.want)
		expectAnswers(t, host.Form{}, c.r, usual, p, nil)
	}
}

// P24.1: items at each position of each size, with an entry at each position; that behind the last position is 0.
func TestAnswersAtAll(t *testing.T) {
	p := newPage(t, 37)
	for _, s := range sizes {
		cells := s.Rows * s.Cols
		var f host.Form
		var r entry.Report
		want := map[int]string{}
		for n := range cells {
			f.Items = append(f.Items, host.Item{Row: n / s.Cols, Col: n % s.Cols})
			r.Entries = append(r.Entries, at(n, string([]byte{0xf0 + byte(n%7), 0xf0 + byte(n%10)})))
			want[(n+cells-1)%cells] = string([]byte{'0' + byte(n%7), '0' + byte(n%10)})
		}
		expectAnswers(t, f, r, s, p, want)
		slices.Reverse(r.Entries)
		expectAnswers(t, f, r, s, p, want)
	}
}

// P24.1: items off the screen are at the position for which their row and column stand, each by itself; nothing of an item but these is looked at.
func TestAnswersOffScreen(t *testing.T) {
	p := newPage(t, 37)
	for _, c := range []struct{ row, col, n int }{
		{24, 0, 1}, {-24, 0, 1}, {48, 160, 1}, {-1, 0, 1841}, {0, -1, 80}, {0, 79, 80}, {0, 80, 1}, {25, 81, 82}, {-1, -1, 0}, {23, 79, 0}, {-25, -81, 0}, {-25, -82, 1919}, {240001, 800002, 83},
	} {
		f := only(host.Item{Row: c.row, Col: c.col, Field: attr.Field{Display: 9}, Ext: []attr.Pair{{Type: 0x99}}, Text: "\xff"})
		for n := range 1920 {
			var want map[int]string
			if n == c.n {
				want = map[int]string{0: "A"}
			}
			expectAnswers(t, f, report(at(n, "\xc1")), usual, p, want)
		}
	}
	f := only(host.Item{Row: math.MaxInt, Col: math.MinInt})
	s := addr.Size{Rows: 27, Cols: 132}
	expectAnswers(t, f, report(at(s.Wrap(s.At(math.MaxInt, math.MinInt)+1), "\xc1")), s, p, map[int]string{0: "A"})
}

// P24.1: a nil page, and invalid sizes.
func TestNoAnswers(t *testing.T) {
	f := only(host.Item{}, host.Item{Row: 1}, host.Item{Row: -1, Col: -1})
	r := report(at(1, "\xc1"), at(0, "\xc2"), at(-1, "\xc3"), at(81, "\xc4"))
	for _, s := range sizes {
		expectAnswers(t, f, r, s, nil, nil)
	}
	for _, s := range wrongSizes {
		expectAnswers(t, f, r, s, newPage(t, 37), nil)
		expectAnswers(t, f, r, s, nil, nil)
		expectAnswers(t, host.Form{}, entry.Report{}, s, nil, nil)
	}
}

// P24.1: every code is decoded by the page.
func TestAnswersOfPages(t *testing.T) {
	f := only(host.Item{})
	for _, number := range pages {
		p := newPage(t, number)
		for code := range 256 {
			b := byte(code)
			expectAnswers(t, f, report(at(1, string([]byte{0xc1, b}))), usual, p, map[int]string{0: "A" + string(p.Sign(b))})
		}
	}
	for number, want := range map[int]string{37: "{¢", 273: "äÄ", 297: "é°", 500: "{[", 1047: "{¢", 1140: "{¢"} {
		expectAnswers(t, f, report(at(1, "\xc0\x4a")), usual, newPage(t, number), map[int]string{0: want})
	}
}

// The rule of memory: a form and a report are not changed, and each answer is new.
func TestAnswersShareNothing(t *testing.T) {
	p := newPage(t, 37)
	text := spare("\xc1\xc2")
	f, r := only(host.Item{}), report(entry.Entry{Addr: 1, Text: text})
	first, second := f.Answers(r, usual, p), f.Answers(r, usual, p)
	if !untouched(text, "\xc1\xc2") {
		t.Errorf("the report's text is %x", text[:cap(text)])
	}
	overwrite(text)
	first[0], first[5] = "other", "more"
	if !maps.Equal(second, map[int]string{0: "AB"}) {
		t.Errorf("%v after all else is overwritten", second)
	}
}

// P24.1: what a terminal sends after the operator has filled in a form by chance is what he has typed.
func TestFilledForms(t *testing.T) {
	r := rand.New(rand.NewPCG(24, 1))
	for range 300 {
		model, number := 2+r.IntN(4), pages[r.IntN(len(pages))]
		p, s := newPage(t, number), usual
		f := host.Form{Erase: true, Restore: true, Alternate: r.IntN(2) == 0}
		if f.Alternate {
			s, _ = addr.Model(model)
		}
		places := r.Perm(s.Rows * s.Cols / 8)[:1+r.IntN(6)]
		want := map[int]string{}
		for i, n := range places {
			item := host.Item{Row: n * 8 / s.Cols, Col: n * 8 % s.Cols, Text: []string{"", "ab", "1ü"}[r.IntN(3)], Cursor: true}
			item.Field = attr.Field{Protected: r.IntN(3) == 0, Display: r.IntN(4), Modified: r.IntN(2) == 0}
			if r.IntN(2) == 0 {
				item.Ext = []attr.Pair{{Type: 0x42, Value: 0xf4}}
			}
			f.Items = append(f.Items, item)
			if item.Field.Modified {
				want[i] = item.Text
			}
		}
		record, e := f.Record(s, p)
		if e != api.OK {
			t.Fatalf("Record of %v: %d", f, e)
		}
		x, _ := term.New(model, number)
		if _, e := x.Host(record); e != api.OK {
			t.Fatalf("%x: %d", record, e)
		}
		last := len(f.Items) - 1
		if item := f.Items[last]; !item.Field.Protected {
			if n, e := x.Type("XyÄ"); n != 3 || e != api.OK {
				t.Fatalf("Type: %d, %d", n, e)
			}
			want[last] = "XyÄ"
		}
		sent, e := x.Key(keys.Key{Kind: keys.Enter})
		if e != api.OK {
			t.Fatalf("Enter: %d", e)
		}
		answer, e := entry.Parse(sent)
		if e != api.OK || len(answer.Entries) != len(want) {
			t.Fatalf("%x: %v, %d", sent, answer, e)
		}
		expectAnswers(t, f, answer, s, p, want)
	}
}
