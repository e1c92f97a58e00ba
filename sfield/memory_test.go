package sfield_test

import (
	"bytes"
	"slices"
	"testing"

	"vitrine/api"
	"vitrine/sfield"
	"vitrine/space"
)

func newScreen(t *testing.T) *space.Space {
	t.Helper()
	s, e := space.New(2)
	if e != api.OK {
		t.Fatal(e)
	}
	return s
}

// overwrite fills a slice and its spare capacity.
func overwrite(p []byte) {
	p = p[:cap(p)]
	for i := range p {
		p[i] = 0x99
	}
}

func overwriteFields(l []sfield.Field) {
	for _, f := range l {
		overwrite(f.Data)
	}
	clear(l[:cap(l)])
}

func overwriteActs(l []sfield.Act) {
	for _, a := range l {
		overwrite(a.Codes)
		overwrite(a.Record)
	}
	clear(l[:cap(l)])
}

// spareBytes are what spare leaves in the capacity behind.
const spareBytes = "\x00\x04\x03\x00\x81\x82"

// spare returns a copy with capacity that holds a field.
func spare(s string) []byte {
	return append([]byte(s), spareBytes...)[:len(s)]
}

func untouched(p []byte, s string) bool {
	return string(p) == s && string(p[:cap(p)][:len(s)+len(spareBytes)]) == s+spareBytes
}

func fieldsOf(p string) []sfield.Field {
	l, _ := sfield.All([]byte(p))
	return l
}

// The rule of memory: data are not changed, and may be overwritten after the call.
func TestDataStay(t *testing.T) {
	p := spare(sampleFields)
	fields, _ := sfield.All(p)
	acts, _ := sfield.Acts(p)
	each := sfield.Fields(p)
	if !untouched(p, sampleFields) {
		t.Errorf("the data are %x", p[:cap(p)])
	}
	overwrite(p)
	want := fieldsOf(sampleFields)
	if !slices.EqualFunc(fields, want, sameField) || !slices.EqualFunc(acts, sampleActs(), sameAct) {
		t.Errorf("%v, %v after the data are overwritten", fields, acts)
	}
	for range 2 {
		i := 0
		for f, e := range each {
			if e != api.OK || !sameField(f, want[i]) {
				t.Errorf("field %d is %v, %d", i, f, e)
			}
			overwrite(f.Data)
			i++
		}
		if i != len(want) {
			t.Errorf("there are %d fields", i)
		}
	}
}

// The rule of memory: no two slices of an answer share memory, nor do two answers.
func TestListsShareNothing(t *testing.T) {
	want := fieldsOf(sampleFields)
	for i := range want {
		p := []byte(sampleFields)
		first, _ := sfield.All(p)
		second, _ := sfield.All(p)
		overwrite(first[i].Data)
		first[i] = fieldsOf(sampleFields)[i]
		if !slices.EqualFunc(first, want, sameField) || !slices.EqualFunc(second, want, sameField) || string(p) != sampleFields {
			t.Errorf("after field %d is overwritten: %v, %v, %x", i, first, second, p)
		}
		overwriteFields(first)
		if !slices.EqualFunc(second, want, sameField) {
			t.Errorf("after the fields are overwritten: %v", second)
		}
		acts, _ := sfield.Acts(p)
		others, _ := sfield.Acts(p)
		overwriteActs(acts)
		if again, _ := sfield.Acts(p); !slices.EqualFunc(others, sampleActs(), sameAct) || !slices.EqualFunc(again, sampleActs(), sameAct) {
			t.Errorf("after the acts are overwritten: %v, %v", others, again)
		}
	}
}

// The rule of memory: a field's data, and what is made of them.
func TestFieldSharesNothing(t *testing.T) {
	for i, f := range fieldsOf(sampleFields) {
		data := string(f.Data)
		f.Data = spare(data)
		raw, _ := f.Bytes()
		other, _ := f.Bytes()
		a, _ := f.Act()
		b, _ := f.Act()
		if !untouched(f.Data, data) {
			t.Errorf("the data are %x", f.Data[:cap(f.Data)])
		}
		overwrite(raw)
		overwriteActs([]sfield.Act{a})
		if !untouched(f.Data, data) || string(other) != whole(f.ID, data) || !sameAct(b, sampleActs()[i]) {
			t.Errorf("%x, %x, %v after other answers are overwritten", f.Data[:cap(f.Data)], other, b)
		}
		overwrite(f.Data)
		if string(other) != whole(f.ID, data) || !sameAct(b, sampleActs()[i]) {
			t.Errorf("%x, %v after the data are overwritten", other, b)
		}
	}
}

// The rule of memory: an act's codes and its record, and what is made of them.
func TestActSharesNothing(t *testing.T) {
	for i, a := range sampleActs() {
		want := fieldsOf(sampleFields)[i]
		codes, record := string(a.Codes), string(a.Record)
		a.Codes, a.Record = spare(codes), spare(record)
		list := append(make([]sfield.Act, 0, 3), a)
		f, _ := a.Field()
		other, _ := a.Field()
		p, _ := sfield.Record(list...)
		q, _ := sfield.Record(list...)
		overwrite(f.Data)
		overwrite(p)
		if !untouched(a.Codes, codes) || !untouched(a.Record, record) || !sameAct(list[:2][1], sfield.Act{}) {
			t.Errorf("the act is %v, the list %v", a, list[:cap(list)])
		}
		overwriteActs(list)
		if !sameField(other, want) || string(q) != "\xf3"+whole(want.ID, string(want.Data)) {
			t.Errorf("%v, %x after all else is overwritten", other, q)
		}
	}
	empty, _ := sfield.Record()
	overwrite(empty)
	if again, _ := sfield.Record(); !bytes.Equal(again, []byte{0xf3}) {
		t.Errorf("an empty record is %x", again)
	}
}
