package term_test

import (
	"slices"
	"strings"
	"testing"

	"vitrine/api"
	"vitrine/keys"
	"vitrine/query"
	"vitrine/term"
)

// sendsFields takes fields as a record, and compares what is sent and the error.
func sendsFields(t *testing.T, x *term.Term, fields string, want api.Errno, sent ...string) {
	t.Helper()
	hostSends(t, x, "\xf3"+fields, want, sent...)
}

// Terms: a Query and a Query List are answered by layer 22, of the terminal's model and page.
func TestQueries(t *testing.T) {
	for model := range sizes {
		for _, number := range pages {
			x, p := newTerm(t, model, number), newPage(t, number)
			told := string(query.All(model, p))
			sendsFields(t, x, queryField, api.OK, told)
			hostSends(t, x, "\x11"+queryField, api.OK, told)
			sendsFields(t, x, "\x00\x06\x01\xff\x03\x80", api.OK, told)
			sendsFields(t, x, "\x00\x08\x01\xff\x03\x40\x88\x85", api.OK, told)
			sendsFields(t, x, "\x00\x06\x01\xff\x03\x00", api.OK, "\x88\x00\x04\x81\xff")
			sendsFields(t, x, "\x00\x07\x01\xff\x03\x00\x88", api.OK, "\x88\x00\x07\x81\x88\x00\x01\x02")
			sendsFields(t, x, "\x00\x08\x01\xff\x03\x00\x85\x81", api.OK, string(query.List(0, []byte{0x85, 0x81}, model, p)))
			checkState(t, "queries", x, usual(model, number))
			checkScreen(t, "queries", x, newScreen(t, model, false, nil, 0))
			checkCounts(t, "queries", x, 0, 0, 7, 7, 0, 0)
		}
	}
}

// Terms: queries tell of the model, also while the screen has the other size, and while the keyboard waits.
func TestQueriesWhenBusy(t *testing.T) {
	for model := range sizes {
		x := busy(t, model)
		told := string(query.All(model, newPage(t, 37)))
		sendsFields(t, x, queryField, api.OK, told)
		checkBusy(t, "a query", x)
		sendsFields(t, x, eraseField, api.OK)
		sendsFields(t, x, queryField, api.OK, told)
	}
}

// Terms: each field that changes something, by itself.
func TestFields(t *testing.T) {
	for model := range sizes {
		for _, c := range []struct {
			fields string
			clears bool
			alt    bool
			mode   int
		}{
			{eraseField, true, false, 2},
			{largeField, true, true, 2},
			{createField, true, false, 0},
			{"\x00\x04\x0c\x00", true, false, 0},
			{destroyed, true, false, 0},
			{activated, false, true, 2},
			{modeField(0), false, true, 0},
			{modeField(1), false, true, 1},
			{modeField(2), false, true, 2},
			{modeField(2)[:1] + "\x08" + modeField(2)[2:] + "\x41\x42\x43", false, true, 2},
			{"", false, true, 2},
			{outbound("\x03"), false, true, 2},
			{outbound("\x03\xc7\xc1"), false, true, 2},
		} {
			x := busy(t, model)
			sendsFields(t, x, c.fields, api.OK)
			want, screen := busyState(model), busyScreen(t, model)
			if c.clears {
				want.Alt, want.Cursor = c.alt, 0
				screen.Clear(c.alt)
			}
			want.Mode = c.mode
			checkState(t, c.fields, x, want)
			checkScreen(t, c.fields, x, screen)
			checkCounts(t, c.fields, x, 0, 0, 0, 1, 0, 0)
		}
	}
}

// Terms: what resets the reply mode, and what does not.
func TestReplyMode(t *testing.T) {
	for _, c := range []struct {
		record string
		resets bool
	}{
		{"\xf1\x40", true}, {"\xf5\x40", true}, {"\x7e\x40", true}, {"\xf1\xc3\xc1", true},
		{"\xf3" + createField, true}, {"\xf3" + destroyed, true}, {"\xf3" + modeField(0), true},
		{"\xf3" + outbound("\xf1\x40"), true}, {"\xf3" + outbound("\xf5\x40"), true}, {"\xf3" + outbound("\x7e\x40"), true},
		{"", false}, {"\x03\x40", false}, {"\xf1", false}, {"\xf1\x07", false}, {"\xf5\x07", false}, {"\x7e\x07", false}, {"\x6f\x40", false},
		{"\xf2\x40", false}, {"\xf6\x40", false}, {"\x6e\x40", false}, {"\x99\x40", false}, {"\xf1\x40\x11", false},
		{"\xf3" + eraseField, false}, {"\xf3" + largeField, false}, {"\xf3" + activated, false}, {"\xf3" + queryField, false},
		{"\xf3" + outbound("\xf1\x07"), false}, {"\xf3" + outbound("\xf1\x40\x11"), false}, {"\xf3" + outbound("\x6f\x40"), false},
		{"\xf3" + modeField(3), false},
	} {
		for _, mode := range []int{1, 2} {
			x := newTerm(t, 2, 37)
			sendsFields(t, x, modeField(byte(mode)), api.OK)
			x.Host([]byte(c.record))
			want := mode
			if c.resets {
				want = 0
			}
			if s := x.State(); s.Mode != want {
				t.Errorf("after %x the reply mode is %d, want %d", c.record, s.Mode, want)
			}
		}
	}
	x := newTerm(t, 2, 37)
	sendsFields(t, x, modeField(1), api.OK)
	press(t, x, keys.Key{Kind: keys.Clear}, "\x6d", api.OK)
	press(t, x, keys.Key{Kind: keys.Reset}, "", api.OK)
	if s := x.State(); s.Mode != 1 {
		t.Errorf("after keys the reply mode is %d", s.Mode)
	}
}

// Terms: an Outbound does what its record does, with every write control character.
func TestOutbound(t *testing.T) {
	x := busy(t, 5)
	for _, b := range []byte("\x03\x01\xf1\x05\xf5\x0d\x7e\x0f\x6f") {
		for control := range 256 {
			y := x.Copy()
			want := wantBusy(t, 5, commandOf(b), byte(control))
			checkRecord(t, y, "\xf3"+outbound(string([]byte{b, byte(control)})), want)
		}
		checkRecord(t, x.Copy(), "\xf3"+outbound(string([]byte{b})), wantBusy(t, 5, commandOf(b), 0))
	}
	hostSends(t, x, "\xf3\x00\x00\x40\x00\xf1\xc7\xd1", api.OK)
	l := formCells(0x00, char(0xa7))
	l[4] = char(0xd1)
	checkScreen(t, "a field up to the end", x, newScreen(t, 5, true, l, 4))
}

// Terms: an Outbound with a command that it may not have, or with none, and one whose record fails at once or in the middle.
func TestWrongOutbound(t *testing.T) {
	for b := range 256 {
		command := commandOf(byte(b))
		if command >= 0 && command <= 4 {
			continue
		}
		x := busy(t, 5)
		sendsFields(t, x, outbound(string([]byte{byte(b)})), api.ErrForm)
		sendsFields(t, x, outbound(string([]byte{byte(b), 0xc7, 0xc1})), api.ErrForm)
		checkBusy(t, "a wrong command", x)
		checkCounts(t, "a wrong command", x, 0, 0, 0, 2, 0, 2)
	}
	x := busy(t, 5)
	sendsFields(t, x, outbound(""), api.ErrForm)
	sendsFields(t, x, "\x00\x06\x40\x01\xf1\xc7", api.ErrArg)
	checkBusy(t, "no command", x)
	for _, c := range []struct {
		record string
		e      api.Errno
	}{
		{"\xf5\xc7\xd1\x11\x7f\x7f\xd2", api.ErrAddr},
		{"\xf5\xc7\xd1\x28\x41\xf3\xd2", api.ErrOrder},
		{"\xf5\xc7\xd1\x2c\x00\xd2", api.ErrOrder},
		{"\xf5\xc7\xd1\x11\x40", api.ErrShort},
	} {
		x := busy(t, 5)
		want := expectation{state: busyState(5), screen: newScreen(t, 5, false, cells{0: char(0xd1)}, 0), e: c.e}
		want.state.Alt, want.state.Cursor = false, 0
		checkRecord(t, x, "\xf3"+outbound(c.record), want)
	}
}

// Terms: several fields in a record, in their order; each read is of what stands before it.
func TestSeveralFields(t *testing.T) {
	x := newTerm(t, 5, 273)
	told := string(query.All(5, newPage(t, 273)))
	sendsFields(t, x, readField(0xf6)+outbound("\xf5\xc4\x1d\xc1\xc1\x13")+readField(0xf6)+modeField(1)+readField(0x06)+queryField+
		outbound("\xf1\x05\xc2")+readField(0x6e)+largeField+readField(0xf6)+activated+"\x00\x07\x01\xff\x03\x00\x88"+createField+readField(0x0e), api.OK,
		"\x60\x40\x40",
		"\x60\x40\xc2\x11\x40\xc1\xc1",
		"\x60\x40\xc2\x11\x40\xc1\xc1",
		told,
		"\x60\x40\xc2",
		"\x60\x40\x40",
		"\x88\x00\x07\x81\x88\x00\x01\x02",
		"\x60\x40\x40")
	checkState(t, "several fields", x, usual(5, 273))
	checkCounts(t, "several fields", x, 2, 0, 8, 1, 0, 0)
}

// bad are fields that cannot be parsed or executed, each with its error.
var bad = []struct {
	field string
	e     api.Errno
	last  bool // whether it can only be the last one
}{
	{"\x00\x03\x55", api.ErrOrder, false},
	{"\x00\x04\x02\x00", api.ErrOrder, false},
	{"\x00\x05\x03\x00\x00", api.ErrForm, false},
	{"\x00\x04\x03\x40", api.ErrForm, false},
	{"\x00\x05\x09\x00\x03", api.ErrForm, false},
	{"\x00\x06\x09\x00\x01\x00", api.ErrForm, false},
	{"\x00\x05\x09\x01\x01", api.ErrArg, false},
	{"\x00\x05\x01\x00\x02", api.ErrArg, false},
	{"\x00\x05\x01\xff\xf2", api.ErrArg, false},
	{"\x00\x06\x01\xff\x03\x01", api.ErrForm, false},
	{"\x00\x03\x0c", api.ErrForm, false},
	{"\x00\x04\x0c\x01", api.ErrArg, false},
	{"\x00\x05\x0d\x00\x00", api.ErrForm, false},
	{"\x00\x04\x0e\xff", api.ErrArg, false},
	{outbound("\xf6"), api.ErrForm, false},
	{outbound("\xf1\xc7\x11\x7f\x7f"), api.ErrAddr, false},
	{outbound("\xf1\xc7\x2c\x00"), api.ErrOrder, false},
	{outbound("\xf1\xc7\x1d"), api.ErrShort, false},
	{"\x00\x01\x03", api.ErrShort, true},
	{"\x00\x02\x03\x00", api.ErrShort, true},
	{"\xff\xff\x03\x00", api.ErrShort, true},
	{"\x00", api.ErrShort, true},
	{"\x00\x00", api.ErrShort, true},
	{"\x00\x00\x55", api.ErrOrder, true},
	{"\x00\x00\x40\x00\xf1\x00\x08\x3c", api.ErrOrder, true},
}

// Terms: of a field that cannot be parsed or executed, what stands ahead of it stays and is sent, and nothing behind it happens.
func TestBadFields(t *testing.T) {
	told := string(query.All(5, newPage(t, 37)))
	for _, b := range bad {
		for _, behind := range []string{"", queryField, modeField(2) + largeField + outbound("\xf1\xc7\xc2") + readField(0xf2)} {
			if b.last && behind != "" {
				continue
			}
			x := newTerm(t, 5, 37)
			sendsFields(t, x, b.field+behind, b.e)
			if !x.Same(newTerm(t, 5, 37)) {
				t.Errorf("%x changes the terminal to %+v", b.field, x.State())
			}
			checkCounts(t, b.field, x, 0, 0, 0, 1, 0, 1)

			sendsFields(t, x, modeField(1)+queryField+outbound("\xf5\x04\xd1\x13")+readField(0xf6)+b.field+behind, b.e, told, "\x60\x40\xc1\xd1")
			state := usual(5, 37)
			state.Mode, state.Cursor = 1, 1
			checkState(t, b.field, x, state)
			checkScreen(t, b.field, x, newScreen(t, 5, false, cells{0: char(0xd1)}, 1))
			checkCounts(t, b.field, x, 1, 0, 2, 2, 0, 2)
		}
	}
}

// Terms: of several errors in a record that of the first field counts, whatever kind it is.
func TestFirstBadField(t *testing.T) {
	for _, first := range bad {
		for _, second := range bad {
			if first.last {
				continue
			}
			x := newTerm(t, 5, 37)
			sendsFields(t, x, first.field+second.field, first.e)
			sendsFields(t, x, activated+first.field+activated+second.field, first.e)
			checkCounts(t, first.field+second.field, x, 0, 0, 0, 2, 0, 2)
		}
	}
}

// P23.1: a record with many reads; each of them is sent and counted.
func TestManyReads(t *testing.T) {
	x := newTerm(t, 2, 37)
	want := slices.Repeat([]string{"\x60\x40\x40"}, 1638)
	sendsFields(t, x, strings.Repeat(readField(0xf6), len(want)), api.OK, want...)
	sendsFields(t, x, strings.Repeat(readField(0xf6), len(want))+"\x00", api.ErrShort, want...)
	checkCounts(t, "many reads", x, 0, 0, 3276, 2, 0, 1)
}
