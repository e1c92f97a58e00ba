package sfield_test

import (
	"math/rand/v2"
	"slices"
	"strings"
	"testing"

	"vitrine/api"
	"vitrine/sfield"
	"vitrine/write"
)

// P21.2: the numbers of the kinds, and their names.
func TestNames(t *testing.T) {
	kinds := []int{sfield.Query, sfield.QueryList, sfield.Read, sfield.Erase, sfield.Mode, sfield.Create, sfield.Destroy, sfield.Activate, sfield.Outbound}
	names := []string{"Query", "QueryList", "Read", "Erase", "Mode", "Create", "Destroy", "Activate", "Outbound"}
	for i, kind := range kinds {
		if kind != i+1 || sfield.Name(kind) != names[i] {
			t.Errorf("the kind %d is called %q, want %d, %q", kind, sfield.Name(kind), i+1, names[i])
		}
	}
	for _, kind := range append([]int{0, 10, 11}, wrongNumbers...) {
		if name := sfield.Name(kind); name != "" {
			t.Errorf("the kind %d is called %q", kind, name)
		}
	}
}

// P21.2: the supported fields, with data that are empty, too short, too long, of another partition, and with bytes that are ignored.
func TestAct(t *testing.T) {
	query, none := sfield.Act{Kind: sfield.Query}, sfield.Act{}
	list := func(request byte, codes string) sfield.Act {
		return sfield.Act{Kind: sfield.QueryList, Request: request, Codes: []byte(codes)}
	}
	out := func(record string) sfield.Act { return sfield.Act{Kind: sfield.Outbound, Record: []byte(record)} }
	for _, v := range []struct {
		id   byte
		data string
		want sfield.Act
		e    api.Errno
	}{
		{0x01, "\xff\x02", query, api.OK},
		{0x01, "", none, api.ErrForm},
		{0x01, "\xff", none, api.ErrForm},
		{0x01, "\x00", none, api.ErrForm},
		{0x01, "\x07", none, api.ErrForm},
		{0x01, "\xff\x02\x00", none, api.ErrForm},
		{0x01, "\x00\x02", none, api.ErrArg},
		{0x01, "\x01\x02", none, api.ErrArg},
		{0x01, "\xfe\x02", none, api.ErrArg},
		{0x01, "\x00\x02\x00", none, api.ErrForm},
		{0x01, "\xff\x03\x00", list(0, ""), api.OK},
		{0x01, "\xff\x03\x40\x81\x80\x81", list(0x40, "\x81\x80\x81"), api.OK},
		{0x01, "\xff\x03\x80\x00\xff", list(0x80, "\x00\xff"), api.OK},
		{0x01, "\xff\x03", none, api.ErrForm},
		{0x01, "\x00\x03", none, api.ErrForm},
		{0x01, "\xff\x03\x01\x80", none, api.ErrForm},
		{0x01, "\xff\x03\xc0", none, api.ErrForm},
		{0x01, "\x00\x03\x20", none, api.ErrForm},
		{0x01, "\x00\x03\x00", none, api.ErrArg},
		{0x01, "\x7f\x03\x40\x81", none, api.ErrArg},
		{0x01, "\x00\xf2", sfield.Act{Kind: sfield.Read, Command: write.ReadBuffer}, api.OK},
		{0x01, "\x00\x06", sfield.Act{Kind: sfield.Read, Command: write.ReadModified}, api.OK},
		{0x01, "\x00\xf6", sfield.Act{Kind: sfield.Read, Command: write.ReadModified}, api.OK},
		{0x01, "\x00\x0e", sfield.Act{Kind: sfield.Read, Command: write.ReadAll}, api.OK},
		{0x01, "\x00\x6e", sfield.Act{Kind: sfield.Read, Command: write.ReadAll}, api.OK},
		{0x01, "\xff\xf2", none, api.ErrArg},
		{0x01, "\xff\xf6", none, api.ErrArg},
		{0x01, "\x01\x6e", none, api.ErrArg},
		{0x01, "\x00\xf6\x00", none, api.ErrForm},
		{0x01, "\x00\xf1", none, api.ErrForm},
		{0x01, "\x00\xf3", none, api.ErrForm},
		{0x01, "\x00\x00", none, api.ErrForm},
		{0x01, "\xff\x04", none, api.ErrForm},
		{0x03, "\x00", sfield.Act{Kind: sfield.Erase}, api.OK},
		{0x03, "\x80", sfield.Act{Kind: sfield.Erase, Alt: true}, api.OK},
		{0x03, "", none, api.ErrForm},
		{0x03, "\x01", none, api.ErrForm},
		{0x03, "\x40", none, api.ErrForm},
		{0x03, "\x00\x00", none, api.ErrForm},
		{0x03, "\x80\x80", none, api.ErrForm},
		{0x09, "\x00\x00", sfield.Act{Kind: sfield.Mode}, api.OK},
		{0x09, "\x00\x01", sfield.Act{Kind: sfield.Mode, Mode: 1}, api.OK},
		{0x09, "\x00\x02", sfield.Act{Kind: sfield.Mode, Mode: 2}, api.OK},
		{0x09, "\x00\x02\x41\x42\x43", sfield.Act{Kind: sfield.Mode, Mode: 2}, api.OK},
		{0x09, "\x00\x00\x41", none, api.ErrForm},
		{0x09, "\x00\x01\x41", none, api.ErrForm},
		{0x09, "\x00\x03", none, api.ErrForm},
		{0x09, "\x00\x03\x41", none, api.ErrForm},
		{0x09, "\x00", none, api.ErrForm},
		{0x09, "\x01", none, api.ErrForm},
		{0x09, "", none, api.ErrForm},
		{0x09, "\x01\x00", none, api.ErrArg},
		{0x09, "\xff\x02\x41", none, api.ErrArg},
		{0x09, "\x01\x03", none, api.ErrForm},
		{0x09, "\x01\x01\x41", none, api.ErrForm},
		{0x0c, "\x00", sfield.Act{Kind: sfield.Create}, api.OK},
		{0x0c, "\x00\x01\x02\x03", sfield.Act{Kind: sfield.Create}, api.OK},
		{0x0c, "", none, api.ErrForm},
		{0x0c, "\x01", none, api.ErrArg},
		{0x0c, "\xff\x00", none, api.ErrArg},
		{0x0d, "\x00", sfield.Act{Kind: sfield.Destroy}, api.OK},
		{0x0d, "", none, api.ErrForm},
		{0x0d, "\x00\x00", none, api.ErrForm},
		{0x0d, "\x01", none, api.ErrArg},
		{0x0d, "\x01\x00", none, api.ErrForm},
		{0x0e, "\x00", sfield.Act{Kind: sfield.Activate}, api.OK},
		{0x0e, "", none, api.ErrForm},
		{0x0e, "\x00\x00", none, api.ErrForm},
		{0x0e, "\xff", none, api.ErrArg},
		{0x0e, "\xff\x00", none, api.ErrForm},
		{0x40, "\x00\xf1\xc3A", out("\xf1\xc3A"), api.OK},
		{0x40, "\x00\x01", out("\x01"), api.OK},
		{0x40, "\x00\xf5\x00", out("\xf5\x00"), api.OK},
		{0x40, "\x00\x7e\xc3\x11\x80", out("\x7e\xc3\x11\x80"), api.OK},
		{0x40, "\x00\x6f", out("\x6f"), api.OK},
		{0x40, "\x00\x03", out("\x03"), api.OK},
		{0x40, "\x00\x03\x05", out("\x03\x05"), api.OK},
		{0x40, "\x00", none, api.ErrForm},
		{0x40, "", none, api.ErrForm},
		{0x40, "\x00\xf2", none, api.ErrForm},
		{0x40, "\x00\xf3\x00\x05\x01\xff\x02", none, api.ErrForm},
		{0x40, "\x00\x11", none, api.ErrForm},
		{0x40, "\x00\x00\xc3", none, api.ErrForm},
		{0x40, "\x01\xf1\xc3A", none, api.ErrArg},
		{0x40, "\xff\x03", none, api.ErrArg},
		{0x40, "\x01\xf2", none, api.ErrForm},
		{0x00, "\x00\x02", none, api.ErrOrder},
		{0x02, "", none, api.ErrOrder},
		{0x0f, "\x01", none, api.ErrOrder},
		{0x81, "\xff", none, api.ErrOrder},
	} {
		expectAct(t, v.id, v.data, v.want, v.e)
	}
}

// P21.2: every identifier, with empty data, one byte, and two bytes.
func TestEveryAct(t *testing.T) {
	for id := range 256 {
		want, e := wantAct(byte(id), "")
		expectAct(t, byte(id), "", want, e)
		for a := range 256 {
			data := string([]byte{byte(a)})
			want, e := wantAct(byte(id), data)
			expectAct(t, byte(id), data, want, e)
			if strings.IndexByte(identifiers, byte(id)) < 0 {
				continue
			}
			for _, partition := range []byte{0, 1, 0x40, 0x80, 0xfe, 0xff} {
				for _, behind := range []string{"", "\x00", "\x40", "\x80", "\xff", "\x01\x00", "\x40\x81\x85"} {
					data := string([]byte{partition, byte(a)}) + behind
					want, e := wantAct(byte(id), data)
					expectAct(t, byte(id), data, want, e)
				}
			}
		}
	}
	for partition := range 256 {
		for _, rest := range []string{"", "\x00", "\x01", "\x02", "\x03", "\x03\x00", "\x03\x40", "\x03\x41", "\xf6", "\xf1A", "\x03A", "\x02A"} {
			for _, id := range []byte(identifiers) {
				data := string([]byte{byte(partition)}) + rest
				want, e := wantAct(id, data)
				expectAct(t, id, data, want, e)
			}
		}
	}
}

// P21.2: long data are not cut.
func TestLongAct(t *testing.T) {
	long := strings.Repeat("\x05A", 40000)
	expectAct(t, 0x40, "\x00\xf5"+long, sfield.Act{Kind: sfield.Outbound, Record: []byte("\xf5" + long)}, api.OK)
	expectAct(t, 0x01, "\xff\x03\x80"+long, sfield.Act{Kind: sfield.QueryList, Request: 0x80, Codes: []byte(long)}, api.OK)
	expectAct(t, 0x09, "\x00\x02"+long, sfield.Act{Kind: sfield.Mode, Mode: 2}, api.OK)
	expectField(t, sfield.Act{Kind: sfield.Outbound, Record: []byte("\xf5" + long)}, 0x40, "\x00\xf5"+long, api.OK)
	expectField(t, sfield.Act{Kind: sfield.QueryList, Codes: []byte(long)}, 0x01, "\xff\x03\x00"+long, api.OK)
}

// filled has a value in each field that a kind might not use.
func filled(kind int) sfield.Act {
	return sfield.Act{Kind: kind, Command: 99, Mode: -7, Alt: true, Request: 0x77, Codes: []byte("\x01\x02"), Record: []byte("\xf2\x00")}
}

// P21.2: the field of each kind of act, with and without values that its kind doesn't use.
func TestField(t *testing.T) {
	for kind, want := range map[int]sfield.Field{
		sfield.Query: of(0x01, "\xff\x02"), sfield.Create: of(0x0c, "\x00"), sfield.Destroy: of(0x0d, "\x00"), sfield.Activate: of(0x0e, "\x00"),
	} {
		expectField(t, sfield.Act{Kind: kind}, want.ID, string(want.Data), api.OK)
		expectField(t, filled(kind), want.ID, string(want.Data), api.OK)
	}
	for command, want := range map[int]string{5: "\x00\xf2", 6: "\x00\xf6", 7: "\x00\x6e"} {
		a := filled(sfield.Read)
		a.Command = command
		expectField(t, a, 0x01, want, api.OK)
		expectField(t, sfield.Act{Kind: sfield.Read, Command: command}, 0x01, want, api.OK)
	}
	for alt, want := range map[bool]string{false: "\x00", true: "\x80"} {
		a := filled(sfield.Erase)
		a.Alt = alt
		expectField(t, a, 0x03, want, api.OK)
		expectField(t, sfield.Act{Kind: sfield.Erase, Alt: alt}, 0x03, want, api.OK)
	}
	for mode := range 3 {
		a := filled(sfield.Mode)
		a.Mode = mode
		expectField(t, a, 0x09, string([]byte{0, byte(mode)}), api.OK)
		expectField(t, sfield.Act{Kind: sfield.Mode, Mode: mode}, 0x09, string([]byte{0, byte(mode)}), api.OK)
	}
	for request := range 256 {
		for _, codes := range []string{"", "\x81", "\xff\x00\x81\x81"} {
			a := filled(sfield.QueryList)
			a.Request, a.Codes = byte(request), []byte(codes)
			if request != 0 && request != 0x40 && request != 0x80 {
				expectField(t, a, 0, "", api.ErrForm)
				continue
			}
			expectField(t, a, 0x01, "\xff\x03"+string([]byte{byte(request)})+codes, api.OK)
		}
	}
	for first := range 256 {
		for _, behind := range []string{"", "\xc3", "\xc3\x11\x80\x80"} {
			a := filled(sfield.Outbound)
			a.Record = append([]byte{byte(first)}, behind...)
			if strings.IndexByte("\x03\x01\xf1\x05\xf5\x0d\x7e\x0f\x6f", byte(first)) < 0 {
				expectField(t, a, 0, "", api.ErrForm)
				continue
			}
			expectField(t, a, 0x40, "\x00"+string(a.Record), api.OK)
		}
	}
}

// P21.2: kinds that there are not, and commands, modes and records that no field stands for.
func TestFieldErrors(t *testing.T) {
	for _, kind := range append([]int{0, 10, 11, 0x40}, wrongNumbers...) {
		expectField(t, sfield.Act{Kind: kind}, 0, "", api.ErrArg)
		expectField(t, filled(kind), 0, "", api.ErrArg)
		expectField(t, sfield.Act{Kind: kind, Command: 6, Mode: 1, Record: []byte("\xf1")}, 0, "", api.ErrArg)
	}
	for _, n := range append([]int{8, 9, 10}, wrongNumbers...) {
		expectField(t, sfield.Act{Kind: sfield.Read, Command: n, Mode: 1}, 0, "", api.ErrForm)
		expectField(t, sfield.Act{Kind: sfield.Mode, Mode: n, Command: 5}, 0, "", api.ErrForm)
	}
	for n := range 5 {
		expectField(t, sfield.Act{Kind: sfield.Read, Command: n}, 0, "", api.ErrForm)
		expectField(t, sfield.Act{Kind: sfield.Mode, Mode: n + 3}, 0, "", api.ErrForm)
	}
	expectField(t, sfield.Act{Kind: sfield.Outbound}, 0, "", api.ErrForm)
	expectField(t, sfield.Act{Kind: sfield.Outbound, Record: []byte{}}, 0, "", api.ErrForm)
	expectField(t, sfield.Act{Kind: sfield.Outbound, Codes: []byte("\xf1")}, 0, "", api.ErrForm)
}

// sampleFields are those of each kind, once, and the bytes that Record makes of them.
const sampleFields = "\x00\x05\x01\xff\x02" + "\x00\x08\x01\xff\x03\x40\x81\x85" + "\x00\x05\x01\x00\x6e" + "\x00\x04\x03\x80" + "\x00\x05\x09\x00\x01" +
	"\x00\x04\x0c\x00" + "\x00\x04\x0d\x00" + "\x00\x04\x0e\x00" + "\x00\x07\x40\x00\xf5\xc3A"

// sampleActs are new memory each time.
func sampleActs() []sfield.Act {
	return []sfield.Act{
		{Kind: sfield.Query},
		{Kind: sfield.QueryList, Request: 0x40, Codes: []byte("\x81\x85")},
		{Kind: sfield.Read, Command: write.ReadAll},
		{Kind: sfield.Erase, Alt: true},
		{Kind: sfield.Mode, Mode: 1},
		{Kind: sfield.Create},
		{Kind: sfield.Destroy},
		{Kind: sfield.Activate},
		{Kind: sfield.Outbound, Record: []byte("\xf5\xc3A")},
	}
}

func expectActs(t *testing.T, p string, want []sfield.Act, e api.Errno) {
	t.Helper()
	if l, errno := sfield.Acts([]byte(p)); !slices.EqualFunc(l, want, sameAct) || errno != e {
		t.Fatalf("Acts of %.80x: %v, %d, want %v, %d", p, l, errno, want, e)
	}
}

func expectRecord(t *testing.T, l []sfield.Act, want string, e api.Errno) {
	t.Helper()
	if p, errno := sfield.Record(l...); string(p) != want || errno != e {
		t.Fatalf("Record of %d acts: %d bytes, %.80x, %d, want %.80x, %d", len(l), len(p), p, errno, want, e)
	}
}

// P21.2: all acts up to the first error, whether that is one of a field or of its meaning.
func TestActs(t *testing.T) {
	expectActs(t, "", nil, api.OK)
	if l, e := sfield.Acts(nil); len(l) != 0 || e != api.OK {
		t.Errorf("Acts of nil: %v, %d", l, e)
	}
	expectActs(t, sampleFields, sampleActs(), api.OK)
	faults := map[string]api.Errno{"\x00\x02": api.ErrShort, "\x00\x02\x01": api.ErrShort, "\x00\x09\x01\xff\x02": api.ErrShort, "\x00\x05\x01\x00\x02": api.ErrArg,
		"\x00\x05\x01\x00\x04": api.ErrForm, "\x00\x03\x77": api.ErrOrder, "\x00\x00\x03\x00\x00": api.ErrForm}
	for fault, e := range faults {
		expectActs(t, fault, nil, e)
		expectActs(t, sampleFields+fault, sampleActs(), e)
		expectActs(t, sampleFields+fault+"\x00\x03\x76", sampleActs(), e)
	}
	expectActs(t, "\x00\x03\x77\x00\x02", nil, api.ErrOrder)
	expectActs(t, "\x00\x05\x01\x00\x02\x00\x03\x77", nil, api.ErrArg)
	expectActs(t, "\x00\x05\x01\x00\x02\x00\x02\x00", nil, api.ErrArg)
	expectActs(t, "\x00\x04\x03\x01\x00\x05\x01\x00\x02", nil, api.ErrForm)
	expectActs(t, "\x00\x04\x03\x80\x00\x00\x40\x00\xf1\xc3\x00\x04\x03\x00", []sfield.Act{
		{Kind: sfield.Erase, Alt: true}, {Kind: sfield.Outbound, Record: []byte("\xf1\xc3\x00\x04\x03\x00")}}, api.OK)
}

// P21.2: a record with acts, those of Field in order before ErrLong.
func TestRecord(t *testing.T) {
	expectRecord(t, nil, "\xf3", api.OK)
	expectRecord(t, []sfield.Act{}, "\xf3", api.OK)
	expectRecord(t, sampleActs(), "\xf3"+sampleFields, api.OK)
	for i, a := range sampleActs() {
		f, _ := a.Field()
		expectRecord(t, []sfield.Act{a, a}, "\xf3"+whole(f.ID, string(f.Data))+whole(f.ID, string(f.Data)), api.OK)
		for _, v := range []struct {
			a sfield.Act
			e api.Errno
		}{{sfield.Act{}, api.ErrArg}, {sfield.Act{Kind: 10}, api.ErrArg}, {sfield.Act{Kind: sfield.Mode, Mode: 3}, api.ErrForm}, {sfield.Act{Kind: sfield.Outbound}, api.ErrForm}} {
			expectRecord(t, slices.Insert(sampleActs(), i, v.a), "", v.e)
			expectRecord(t, append(sampleActs(), v.a, a), "", v.e)
		}
	}
	expectRecord(t, []sfield.Act{{Kind: sfield.Mode, Mode: 3}, {}}, "", api.ErrForm)
	expectRecord(t, []sfield.Act{{}, {Kind: sfield.Mode, Mode: 3}}, "", api.ErrArg)
}

// outbound is an act whose field has that many bytes.
func outbound(n int) sfield.Act {
	return sfield.Act{Kind: sfield.Outbound, Record: slices.Repeat([]byte{0xf1}, n-4)}
}

// P21.2: a record has at most MaxRecord bytes; an act that is wrong comes first, wherever it is.
func TestLongRecord(t *testing.T) {
	mode := sfield.Act{Kind: sfield.Mode}
	expectRecord(t, []sfield.Act{outbound(8191)}, "\xf3"+whole(0x40, "\x00"+strings.Repeat("\xf1", 8187)), api.OK)
	expectRecord(t, []sfield.Act{outbound(8186), mode}, "\xf3"+whole(0x40, "\x00"+strings.Repeat("\xf1", 8182))+"\x00\x05\x09\x00\x00", api.OK)
	for _, l := range [][]sfield.Act{
		{outbound(8192)},
		{outbound(8193)},
		{outbound(70000)},
		{outbound(8187), mode},
		{mode, outbound(8187)},
		{outbound(8193), mode},
		{outbound(5000), outbound(3192)},
		{{Kind: sfield.QueryList, Codes: slices.Repeat([]byte{0x81}, 8192)}},
		slices.Repeat([]sfield.Act{mode}, 1639),
	} {
		expectRecord(t, l, "", api.ErrLong)
		expectRecord(t, append(slices.Clone(l), sfield.Act{Kind: sfield.Mode, Mode: 3}), "", api.ErrForm)
		expectRecord(t, append(slices.Clone(l), sfield.Act{Kind: 77}), "", api.ErrArg)
	}
	expectRecord(t, slices.Repeat([]sfield.Act{mode}, 1638), "\xf3"+strings.Repeat("\x00\x05\x09\x00\x00", 1638), api.OK)
}

// randomAct is often one that a field stands for.
func randomAct(r *rand.Rand) sfield.Act {
	a := sfield.Act{Kind: 1 + r.IntN(9), Command: 4 + r.IntN(5), Mode: r.IntN(4), Alt: r.IntN(2) == 0, Request: []byte{0, 0x40, 0x80, 0x41}[r.IntN(4)]}
	for range r.IntN(4) {
		a.Codes = append(a.Codes, byte(0x80+r.IntN(9)))
		a.Record = append(a.Record, "\x03\x01\xf1\x05\xf5\x0d\x7e\x0f\x6f\xf3"[r.IntN(10)])
	}
	return a
}

// P21.2: acts by chance, as a record, are the same acts again; the record is one of Write Structured Field.
func TestRecordsByChance(t *testing.T) {
	r := rand.New(rand.NewPCG(21, 2))
	good := 0
	for range 20000 {
		var l, want []sfield.Act
		fault := api.OK
		for range r.IntN(4) {
			a := randomAct(r)
			f, e := a.Field()
			if fault == api.OK {
				fault = e
			}
			if e == api.OK {
				if meaning, ok := meant(f.ID, string(f.Data)); !ok || !sameAct(meaning, used(a)) {
					t.Fatalf("the field of %v is %v", a, f)
				}
			}
			l, want = append(l, a), append(want, used(a))
		}
		p, e := sfield.Record(l...)
		if e != fault {
			t.Fatalf("Record of %v: %d, want %d", l, e, fault)
		}
		if e != api.OK {
			continue
		}
		good++
		result, e := write.Run(newScreen(t), p)
		if e != api.OK || result.Command != write.Structured {
			t.Fatalf("%v, %d", result, e)
		}
		expectActs(t, string(result.Fields), want, api.OK)
	}
	if good < 5000 {
		t.Errorf("only %d records are good", good)
	}
}
