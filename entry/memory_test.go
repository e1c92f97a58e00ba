package entry_test

import (
	"maps"
	"slices"
	"testing"

	"vitrine/api"
	"vitrine/entry"
)

// sample is the data of a Read Modified, and sampleEntries are its entries.
const sample = front + "\xc1\x08\xc5\x11\x40\x50AB\x28\x42\xf1CD\x11\x40\xc1\x11\xc1\xd1E"

func sampleEntries() []entry.Entry {
	return []entry.Entry{at(0, "\xc1\xc5"), at(16, "ABCD"), at(1, ""), at(81, "E")}
}

// whole is the data of a Read Buffer.
const whole = front + "\x1d\x60AB\x29\x02\xc0\x40\x42\xf1\x28\x41\xf4C\x08\xc5"

// The rule of memory: data are not changed, and may be overwritten after the call.
func TestArgumentsStay(t *testing.T) {
	p := spare(sample)
	r, _ := entry.Parse(p)
	each := entry.Entries(p)
	q := spare(whole)
	l, _, _ := entry.Buffer(q)
	kept, _, _ := entry.Buffer([]byte(whole))
	record, _ := entry.Replay(q, false)
	if string(p) != sample || string(p[:cap(p)][:len(sample)+6]) != sample+"\x11\x40\x40AB\x13" {
		t.Errorf("the data are %x", p[:cap(p)])
	}
	if string(q) != whole || string(q[:cap(q)][:len(whole)+6]) != whole+"\x11\x40\x40AB\x13" {
		t.Errorf("the data are %x", q[:cap(q)])
	}
	overwrite(p)
	overwrite(q)
	if !sameReport(r, of(sampleEntries()...)) || !slices.Equal(l, kept) || string(record) != "\xf5\x40"+whole[3:]+"\x11\x40\xc2\x13" {
		t.Errorf("%v, %v, %x after their arguments are overwritten", r, l, record)
	}
	for range 2 {
		i := 0
		for n, text := range each {
			if want := sampleEntries()[i]; n != want.Addr || string(text) != string(want.Text) {
				t.Errorf("entry %d is %d, %x", i, n, text)
			}
			overwrite(text)
			i++
		}
		if i != len(sampleEntries()) {
			t.Errorf("there are %d entries", i)
		}
	}
}

// The rule of memory: no two slices of an answer share memory, nor do two answers.
func TestAnswersShareNothing(t *testing.T) {
	want := of(sampleEntries()...)
	for i := range want.Entries {
		p := []byte(sample)
		first, _ := entry.Parse(p)
		second, _ := entry.Parse(p)
		overwrite(first.Entries[i].Text)
		first.Entries[i] = want.Entries[i]
		if !sameReport(first, want) || !sameReport(second, want) || string(p) != sample {
			t.Errorf("after entry %d is overwritten: %v, %v, %x", i, first, second, p)
		}
		clear(first.Entries[:cap(first.Entries)])
		if !sameReport(second, want) {
			t.Errorf("after the entries are overwritten: %v", second)
		}
	}
	for _, alternate := range []bool{false, true} {
		first, _ := entry.Replay([]byte(whole), alternate)
		second, _ := entry.Replay([]byte(whole), alternate)
		kept := string(second)
		overwrite(first)
		if third, _ := entry.Replay([]byte(whole), alternate); string(second) != kept || string(third) != kept {
			t.Errorf("%x, %x, want %x", second, third, kept)
		}
	}
}

// The rule of memory: a report is not changed, and its data and its texts are new.
func TestBytesShareNothing(t *testing.T) {
	for _, l := range [][]entry.Entry{nil, {at(0, "AB")}, {at(5, "AB"), at(0, ""), at(7, "C")}} {
		r := of(append(make([]entry.Entry, 0, 8), l...)...)
		for i := range r.Entries {
			r.Entries[i].Text = spare(string(r.Entries[i].Text))
		}
		first, _ := entry.Bytes(r)
		kept := string(first)
		values := entry.Values(r, nil)
		overwrite(first)
		if second, e := entry.Bytes(r); string(second) != kept || e != api.OK || !sameReport(r, of(l...)) {
			t.Errorf("%x, %v after the answer is overwritten", second, r)
		}
		for i, one := range r.Entries {
			if text := one.Text[:cap(one.Text)]; string(text[len(one.Text):][:6]) != "\x11\x40\x40AB\x13" {
				t.Errorf("text %d has become %x", i, text)
			}
		}
		second, _ := entry.Bytes(r)
		again := maps.Clone(values)
		for i := range r.Entries {
			overwrite(r.Entries[i].Text)
		}
		if string(second) != kept || !maps.Equal(values, again) {
			t.Errorf("%x, %v after the report is overwritten", second, values)
		}
	}
}

// The rule of memory: the attributes of a list, and the cells of data, are new each time.
func TestCellsShareNothing(t *testing.T) {
	first, _, _ := entry.Buffer([]byte(whole))
	second, _, _ := entry.Buffer([]byte(whole))
	kept := slices.Clone(second)
	marks, others := entry.Fields(second), entry.Fields(second)
	want := slices.Clone(marks)
	clear(first[:cap(first)])
	clear(marks[:cap(marks)])
	if !slices.Equal(second, kept) || !slices.Equal(others, want) {
		t.Errorf("%v, %v", second, others)
	}
	clear(second)
	if !slices.Equal(others, want) {
		t.Errorf("%v, want %v", others, want)
	}
}
