package sfield_test

import (
	"bytes"
	"fmt"
	"math"
	"slices"
	"strings"
	"testing"

	"vitrine/api"
	"vitrine/sfield"
)

// wrongNumbers are no kinds, no commands that read and no modes; the lowest bytes of some would be.
var wrongNumbers = []int{math.MinInt, math.MinInt + 2, -256, -255, -254, -250, -9, -2, -1, 256, 257, 258, 259, 262, 1 << 32, 1<<32 + 6, 1<<62 + 1, math.MaxInt - 1, math.MaxInt}

// whole writes a field with its length in front.
func whole(id byte, data string) string {
	n := len(data) + 3
	return string([]byte{byte(n / 256), byte(n % 256), id}) + data
}

func of(id byte, data string) sfield.Field {
	return sfield.Field{ID: id, Data: []byte(data)}
}

func sameField(a, b sfield.Field) bool {
	return a.ID == b.ID && bytes.Equal(a.Data, b.Data)
}

func sameAct(a, b sfield.Act) bool {
	return a.Kind == b.Kind && a.Command == b.Command && a.Mode == b.Mode && a.Alt == b.Alt && a.Request == b.Request &&
		bytes.Equal(a.Codes, b.Codes) && bytes.Equal(a.Record, b.Record)
}

// expectFields compares what All returns, and what Fields yields.
func expectFields(t *testing.T, p string, want []sfield.Field, e api.Errno) {
	t.Helper()
	if got, errno := sfield.All([]byte(p)); !slices.EqualFunc(got, want, sameField) || errno != e {
		t.Fatalf("All of %.80x: %.300s, %d, want %.300s, %d", p, fmt.Sprint(got), errno, fmt.Sprint(want), e)
	}
	var got []sfield.Field
	last := api.OK
	for f, errno := range sfield.Fields([]byte(p)) {
		if last != api.OK {
			t.Fatalf("Fields of %.80x goes on after the error %d", p, last)
		}
		last = errno
		if errno == api.OK {
			got = append(got, f)
		} else if !sameField(f, sfield.Field{}) {
			t.Fatalf("Fields of %.80x: %v beside the error %d", p, f, errno)
		}
	}
	if !slices.EqualFunc(got, want, sameField) || last != e {
		t.Fatalf("Fields of %.80x: %.300s, %d, want %.300s, %d", p, fmt.Sprint(got), last, fmt.Sprint(want), e)
	}
}

// expectAct compares what Act returns of a field, and what Acts returns of it; beside an error that is nothing.
func expectAct(t *testing.T, id byte, data string, want sfield.Act, e api.Errno) {
	t.Helper()
	if got, errno := of(id, data).Act(); !sameAct(got, want) || errno != e {
		t.Fatalf("Act of %x, %.80x: %v, %d, want %v, %d", id, data, got, errno, want, e)
	}
}

// expectField compares what Field returns of an act; without an error, Act is to return the act again.
func expectField(t *testing.T, a sfield.Act, id byte, data string, e api.Errno) {
	t.Helper()
	f, errno := a.Field()
	if !sameField(f, of(id, data)) || errno != e {
		t.Fatalf("Field of %v: %v, %d, want %x, %.80x, %d", a, f, errno, id, data, e)
	}
	if e == api.OK {
		if again, errno := f.Act(); !sameAct(again, used(a)) || errno != api.OK {
			t.Fatalf("Act of the field of %v: %v, %d", a, again, errno)
		}
	}
}

// used is an act without what its kind doesn't use.
func used(a sfield.Act) sfield.Act {
	u := sfield.Act{Kind: a.Kind}
	switch a.Kind {
	case 2:
		u.Request, u.Codes = a.Request, a.Codes
	case 3:
		u.Command = a.Command
	case 4:
		u.Alt = a.Alt
	case 5:
		u.Mode = a.Mode
	case 9:
		u.Record = a.Record
	}
	return u
}

// identifiers are those of the supported fields.
const identifiers = "\x01\x03\x09\x0c\x0d\x0e\x40"

// meant looks a field up among those that the document lists, with no regard to errors.
func meant(id byte, data string) (sfield.Act, bool) {
	exact := map[string]sfield.Act{
		"\x01\xff\x02": {Kind: sfield.Query},
		"\x01\x00\xf2": {Kind: sfield.Read, Command: 5},
		"\x01\x00\x06": {Kind: sfield.Read, Command: 6},
		"\x01\x00\xf6": {Kind: sfield.Read, Command: 6},
		"\x01\x00\x0e": {Kind: sfield.Read, Command: 7},
		"\x01\x00\x6e": {Kind: sfield.Read, Command: 7},
		"\x03\x00":     {Kind: sfield.Erase},
		"\x03\x80":     {Kind: sfield.Erase, Alt: true},
		"\x09\x00\x00": {Kind: sfield.Mode},
		"\x09\x00\x01": {Kind: sfield.Mode, Mode: 1},
		"\x0d\x00":     {Kind: sfield.Destroy},
		"\x0e\x00":     {Kind: sfield.Activate},
	}
	raw := string([]byte{id}) + data
	if a, ok := exact[raw]; ok {
		return a, true
	}
	for _, request := range []byte{0, 0x40, 0x80} {
		if codes, ok := strings.CutPrefix(raw, "\x01\xff\x03"+string([]byte{request})); ok {
			return sfield.Act{Kind: sfield.QueryList, Request: request, Codes: []byte(codes)}, true
		}
	}
	if strings.HasPrefix(raw, "\x09\x00\x02") {
		return sfield.Act{Kind: sfield.Mode, Mode: 2}, true
	}
	if strings.HasPrefix(raw, "\x0c\x00") {
		return sfield.Act{Kind: sfield.Create}, true
	}
	for _, command := range []byte("\x03\x01\xf1\x05\xf5\x0d\x7e\x0f\x6f") {
		if strings.HasPrefix(raw, "\x40\x00"+string([]byte{command})) {
			return sfield.Act{Kind: sfield.Outbound, Record: []byte(raw[2:])}, true
		}
	}
	return sfield.Act{}, false
}

// wantAct tries other partitions to tell which error it is.
func wantAct(id byte, data string) (sfield.Act, api.Errno) {
	if strings.IndexByte(identifiers, id) < 0 {
		return sfield.Act{}, api.ErrOrder
	}
	if a, ok := meant(id, data); ok {
		return a, api.OK
	}
	if id == 0x03 || data == "" {
		return sfield.Act{}, api.ErrForm
	}
	for _, partition := range []string{"\x00", "\xff"} {
		if _, ok := meant(id, partition+data[1:]); ok {
			return sfield.Act{}, api.ErrArg
		}
	}
	return sfield.Act{}, api.ErrForm
}
