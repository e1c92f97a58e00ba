package session_test

import (
	"slices"
	"strings"
	"testing"

	"vitrine/api"
	"vitrine/keys"
	"vitrine/query"
	"vitrine/session"
)

// The structured fields that the tests send.
const (
	queryField = "\x00\x05\x01\xff\x02"
	readField  = "\x00\x05\x01\x00\xf6"
	badField   = "\x00\x03\x55"
)

// most is a record of as many bytes as are permitted, behind whatever stands in front of them.
var most = strings.Repeat("\xc1", api.MaxRecord)

// P25.1: each kind of event, how it is counted, what is sent, and which error is kept.
func TestEvents(t *testing.T) {
	for _, c := range []struct {
		what    string
		mode    int
		p       string
		events  int
		records uint64
		out     string
		errors  []api.Errno
	}{
		{"nothing", plain, "", 0, 0, "", nil},
		{"a text", plain, "hello", 0, 0, "", nil},
		{"texts", plain, "a\xff\xf1b" + eor + "c", 0, 0, "", nil},
		{"an option", plain, "\xff\xfd\x01", 0, 0, "\xff\xfc\x01", nil},
		{"a record", basic, wrapped("\xf1\x40A"), 1, 1, "", []api.Errno{api.OK}},
		{"an empty record", basic, eor, 1, 1, "", []api.Errno{api.OK}},
		{"a record that breaks off", basic, wrapped("\xf1\x40\x11"), 1, 1, "", []api.Errno{api.ErrShort}},
		{"a wrong command", basic, wrapped("\x99"), 1, 1, "", []api.Errno{api.ErrCommand}},
		{"a read", basic, wrapped("\xf6"), 1, 1, wrapped("\x60\x40\x40"), []api.Errno{api.OK}},
		{"a long record", basic, wrapped(most + "A"), 1, 0, "", []api.Errno{api.ErrLong}},
		{"a record", extended, headed(0, 0, 0, "\xf1\x40A"), 1, 1, "", []api.Errno{api.OK}},
		{"a record that asks", extended, headed(0, 2, 7, "\xf1\x40A"), 1, 1, positive(7), []api.Errno{api.OK}},
		{"a read that asks", extended, headed(0, 2, 7, "\xf6"), 1, 1, headed(0, 0, 0, "\x60\x40\x40") + positive(7), []api.Errno{api.OK}},
		{"an empty record", extended, headed(0, 2, 7, ""), 1, 1, positive(7), []api.Errno{api.OK}},
		{"a record that breaks off", extended, headed(0, 2, 7, "\xf1\x40\x11"), 1, 1, negative(7, 2), []api.Errno{api.ErrShort}},
		{"SCS data", extended, headed(1, 2, 0x1ff, "x"), 1, 0, negative(0x1ff, 0), []api.Errno{api.ErrCommand}},
		{"a positive answer", extended, headed(2, 0, 1, "\x00"), 1, 0, "", nil},
		{"a negative answer", extended, headed(2, 1, 1, "\x01"), 1, 0, "", nil},
		{"BIND-IMAGE", extended, headed(3, 1, 2, "x"), 1, 0, negative(2, 0), []api.Errno{api.ErrCommand}},
		{"UNBIND", extended, headed(4, 0, 2, "x"), 1, 0, "", []api.Errno{api.ErrCommand}},
		{"a text with a header", extended, headed(5, 2, 3, "hello"), 1, 0, positive(3), []api.Errno{api.OK}},
		{"a text that asks on errors", extended, headed(5, 1, 3, "hello"), 1, 0, "", []api.Errno{api.OK}},
		{"REQUEST", extended, headed(6, 2, 3, ""), 1, 0, "", []api.Errno{api.ErrCommand}},
		{"SSCP-LU-DATA", extended, headed(7, 2, 4, "x"), 1, 0, negative(4, 0), []api.Errno{api.ErrCommand}},
		{"PRINT-EOJ", extended, headed(8, 1, 32767, ""), 1, 0, negative(32767, 0), []api.Errno{api.ErrCommand}},
		{"a wrong header", extended, headed(9, 2, 3, "x"), 1, 0, "", nil},
		{"a wrong response", extended, headed(0, 3, 3, form), 1, 0, "", nil},
		{"no header", extended, "\x00\x00\x02\x00" + eor, 1, 0, "", nil},
		{"no bytes", extended, eor, 1, 0, "", nil},
		{"a long record", extended, headed(0, 2, 5, most), 1, 0, negative(5, 3), []api.Errno{api.ErrLong}},
		{"a long text", extended, headed(5, 2, 5, most), 1, 0, negative(5, 3), []api.Errno{api.ErrLong}},
		{"a long answer", extended, headed(2, 1, 5, most), 1, 0, "", []api.Errno{api.ErrLong}},
		{"a long record without a header", extended, headed(9, 2, 5, most), 1, 0, "", []api.Errno{api.ErrLong}},
	} {
		s := reach(t, c.mode)
		takes(t, s, c.p, c.events, c.out)
		checkErrors(t, c.what, s, c.errors...)
		if n := counts(s)[3]; n != c.records {
			t.Errorf("%s: the terminal has %d records, want %d", c.what, n, c.records)
		}
	}
}

// P25.1: what is no record for the terminal leaves it as it is.
func TestOtherEvents(t *testing.T) {
	for _, p := range []string{headed(1, 2, 1, form), headed(2, 0, 1, form), headed(3, 2, 1, form), headed(4, 2, 1, form), headed(5, 2, 1, form), headed(6, 2, 1, form), headed(7, 2, 1, form),
		headed(8, 2, 1, form), headed(9, 2, 1, form), headed(0, 3, 1, form), headed(0, 2, 1, most), "\xf5\xc3" + eor, eor} {
		s := formed(t, extended)
		s.Type("A")
		s.Bytes([]byte(p))
		checkScreen(t, p, s, cells{0: attribute(1), 1: char(0xc1), 6: attribute(0x20)}, 2)
		checkCounts(t, p, s, 0, 1, 0, 1, 0, 0)
	}
}

// P25.1: several events in one call are processed in order.
func TestSeveral(t *testing.T) {
	s := reach(t, extended)
	p := headed(0, 2, 1, form) + headed(5, 2, 2, "one") + headed(1, 2, 3, "") + headed(2, 0, 4, "\x00") + "\x09" + eor + headed(0, 2, 5, "\xf1\x42\x11\x40\xc3\xc3") + headed(0, 1, 6, "\x99") +
		headed(0, 2, 7, most) + headed(0, 1, 8, "\xf6") + headed(5, 0, 9, "two") + headed(0, 2, 10, "\xf2")
	whole := "\x60\x40\xc1\x1d\x40\x00\x00\xc3\x00\x00\x1d\x60" + strings.Repeat("\x00", 1920-7)
	takes(t, s, p, 11, positive(1)+positive(2)+negative(3, 0)+positive(5)+negative(6, 0)+negative(7, 3)+headed(0, 0, 0, "\x60\x40\xc1")+headed(0, 0, 1, whole)+positive(10))
	checkErrors(t, p, s, api.OK, api.OK, api.ErrCommand, api.OK, api.ErrCommand, api.ErrLong, api.OK, api.OK, api.OK)
	if text := s.View().Text; text != "onetwo" {
		t.Error(text)
	}
	checkCounts(t, p, s, 0, 0, 2, 5, 0, 1)

	s = reach(t, basic)
	takes(t, s, wrapped(form)+wrapped("\xf6")+wrapped("\x99")+eor+wrapped("\xf1\x40\x11")+wrapped(most+"A")+wrapped("\xf6"), 7, wrapped("\x60\x40\xc1")+wrapped("\x60\x40\xc1"))
	checkErrors(t, "basic", s, api.OK, api.OK, api.ErrCommand, api.OK, api.ErrShort, api.ErrLong, api.OK)
}

// P25.1: what is agreed on within one call counts for the bytes behind it: texts are not counted, records are.
func TestAgreedOnTheWay(t *testing.T) {
	s := newSession(t, usual())
	takes(t, s, "a"+eor+toBasic+"\xf6"+eor+leave+"\xf6"+eor+back+"\xf1\x40\x08"+eor+toExt+headed(0, 2, 1, "\xf6")+"\xf6"+dontExt+eor, 4,
		saysBasic+wrapped("\x60\x40\x40")+"\xff\xfc\x19\xff\xfb\x19"+saysExt+headed(0, 0, 0, "\x60\x40\x40")+positive(1)+"\xff\xfc\x28")
	checkErrors(t, "on the way", s, api.OK, api.ErrShort, api.OK, api.OK)
	checkView(t, "on the way", s, session.View{Mode: basic, State: newState(2, 37), Text: "a\xf6"})
}

// P25.1, Terms: the results are sent in order, and then the response; also of a record that is rejected behind some results.
func TestResultsFirst(t *testing.T) {
	s := formed(t, extended)
	told := string(query.All(2, s.Page()))
	read := "\x60\x40\xc1"
	takes(t, s, headed(0, 2, 1, "\xf3"+queryField+readField+queryField), 1, headed(0, 0, 0, told)+headed(0, 0, 1, read)+headed(0, 0, 2, told)+positive(1))
	takes(t, s, headed(0, 2, 2, "\xf3"+readField+queryField+badField+queryField), 1, headed(0, 0, 3, read)+headed(0, 0, 4, told)+negative(2, 2))
	takes(t, s, headed(0, 1, 3, "\xf3"+readField+badField), 1, headed(0, 0, 5, read)+negative(3, 2))
	takes(t, s, headed(0, 0, 4, "\xf3"+readField+badField), 1, headed(0, 0, 6, read))
	takes(t, s, headed(0, 1, 5, "\xf3"+readField), 1, headed(0, 0, 7, read))
	checkErrors(t, "results", s, api.OK, api.OK, api.ErrOrder, api.ErrOrder, api.ErrOrder, api.OK)

	s = formed(t, basic)
	takes(t, s, wrapped("\xf3"+queryField+readField+badField+readField)+wrapped("\xf6"), 2, wrapped(told)+wrapped(read)+wrapped(read))
	checkErrors(t, "results", s, api.OK, api.ErrOrder, api.OK)
}

// P25.1: of a record that is rejected stays what was executed, and nothing else of it.
func TestRejected(t *testing.T) {
	for mode := basic; mode <= extended; mode++ {
		s := formed(t, mode)
		press(t, s, keys.Key{Kind: keys.PA, N: 1}, api.OK, fromUs(mode, 0, "\x6c"))
		before := cells{0: attribute(0), 6: attribute(0x20)}
		checkScreen(t, "before", s, before, 1)
		for _, p := range []string{"\x99", "\x98", "\x55\x40\xc1", "\xf1\x03\x3c", "\xf3\x00", "\xf3" + badField, "\xf1\x02\x08", "\xf1\x06\x11\x40"} {
			takes(t, s, inMode(mode, p), 1, "")
			checkScreen(t, p, s, before, 1)
		}
		// The character is written, but the keyboard is not restored, and no alarm sounds.
		takes(t, s, inMode(mode, "\xf1\x06\x11\x40\xc2\xc5\x11\x5e\x40\xc6"), 1, "")
		checkScreen(t, "half of it", s, cells{0: attribute(0), 2: char(0xc5), 6: attribute(0x20)}, 1)
		if v := s.View(); v.State.Lock != 1 || v.State.AID != 0x6c {
			t.Error(v)
		}
		checkErrors(t, "rejected", s, api.OK, api.ErrCommand, api.ErrCommand, api.ErrCommand, api.ErrShort, api.ErrShort, api.ErrOrder, api.ErrShort, api.ErrShort, api.ErrAddr)
		checkCounts(t, "rejected", s, 0, 1, 1, 10, 0, 9)
		takes(t, s, inMode(mode, "\xf3\x00\x04\x03\x00"+badField), 1, "")
		checkScreen(t, "cleared", s, nil, 0)
	}
}

// P25.1: a record that is too long has no effect, and the next one is executed.
func TestLong(t *testing.T) {
	for mode := basic; mode <= extended; mode++ {
		s := formed(t, mode)
		fits := "\xf1\x40" + most[2:]
		if mode == extended {
			fits = fits[:api.MaxRecord-5]
		}
		takes(t, s, inMode(mode, fits+"\xc1")+inMode(mode, form), 2, "")
		checkErrors(t, "one too many", s, api.OK, api.ErrLong, api.OK)
		checkScreen(t, "one too many", s, cells{0: attribute(0), 6: attribute(0x20)}, 1)
		checkCounts(t, "one too many", s, 0, 0, 0, 2, 0, 0)
		takes(t, s, inMode(mode, fits)+inMode(mode, form+most)+inMode(mode, most+most+most), 3, "")
		checkErrors(t, "it fits", s, api.OK, api.ErrLong, api.OK, api.OK, api.ErrLong, api.ErrLong)
		if c := s.Screen().At(1919); c != char(0xc1) {
			t.Error(c)
		}
	}
}

// P25.1: texts are appended, with and without a header; the last MaxText bytes stay.
func TestText(t *testing.T) {
	s := newSession(t, usual())
	want := ""
	says := func(p string, text string) {
		t.Helper()
		s.Bytes([]byte(p))
		want += text
		want = want[max(0, len(want)-api.MaxText):]
		if got := s.View().Text; got != want {
			t.Fatalf("%.40q: the text has %d bytes, want %d: %.60q", p, len(got), len(want), got)
		}
	}
	says("", "")
	says("ab", "ab")
	says("\xff\xff\x00\n", "\xff\x00\n")
	says("c\xff\xf1d", "cd")
	for n := range 30 {
		says(strings.Repeat(string([]byte{byte(n)}), 150), strings.Repeat(string([]byte{byte(n)}), 150))
	}
	if len(want) != api.MaxText {
		t.Fatal(len(want))
	}
	says("x", "x")
	for _, n := range []int{api.MaxText - 1, api.MaxText, api.MaxText + 1, 2*api.MaxText + 7} {
		l := make([]byte, n)
		for i := range l {
			l[i] = byte(i / 7 % 251)
		}
		says(string(l), string(l))
		says("y", "y")
	}
	says(toExt+headed(5, 0, 1, "nvt"), "nvt")
	says(headed(5, 2, 1, "\xff"+most[:api.MaxRecord-6])+headed(5, 0, 1, ""), most)
	says(headed(5, 0, 1, "z"), "z")
	says(headed(5, 0, 1, most)+headed(1, 0, 1, "no")+headed(2, 0, 1, "no")+headed(0, 0, 1, "no")+"no"+eor, "")
	says(dontExt+"last", "last")
}

// P25.1, Terms: the text is kept whole up to MaxText bytes, of single ones and of long ones.
func TestMostText(t *testing.T) {
	for _, size := range []int{1, 2, 3, 1000, api.MaxText} {
		s := newSession(t, usual())
		all := ""
		for i := 0; len(all) < 2*api.MaxText+10; i++ {
			p := strings.Repeat(string([]byte{byte('a' + i%26)}), size)
			all += p
			s.Bytes([]byte(p))
			if i%97 == 0 || len(all) > 2*api.MaxText {
				checkView(t, "the text", s, session.View{State: newState(2, 37), Text: all[max(0, len(all)-api.MaxText):]})
			}
		}
	}
}

// P25.2: Errors yields the last 64, in order.
func TestErrors(t *testing.T) {
	s := reach(t, extended)
	some := []struct {
		p string
		e api.Errno
	}{
		{headed(0, 0, 0, "\xf1\x40"), api.OK}, {headed(0, 0, 0, "\xf1\x40\x1d"), api.ErrShort}, {headed(0, 1, 0, "\x98"), api.ErrCommand}, {headed(1, 0, 0, ""), api.ErrCommand},
		{headed(5, 0, 0, ""), api.OK}, {headed(0, 0, 0, "\xf1\x40\x11\x5e\x40"), api.ErrAddr}, {headed(0, 0, 0, "\xf1\x40\x28\x41\xf3"), api.ErrOrder}, {headed(0, 0, 0, most), api.ErrLong},
	}
	var want []api.Errno
	for i := range 200 {
		c := some[i*i%31%len(some)]
		// An answer and a record without a header leave no error.
		s.Bytes([]byte(c.p + headed(2, 0, 0, "\x00") + "\x00" + eor))
		want = append(want, c.e)
		checkErrors(t, c.p, s, want[max(0, len(want)-64):]...)
	}
}

// P25.2 and P2: an iterator of errors may be left and ranged over again, and does not hang on what happens later.
func TestErrorsAgain(t *testing.T) {
	s := reach(t, basic)
	s.Bytes([]byte(wrapped("\xf1\x40") + wrapped("\x99") + wrapped("\xf1\x40\x1d")))
	l := s.Errors()
	want := []api.Errno{api.OK, api.ErrCommand, api.ErrShort}
	for range 2 {
		for stop := 1; stop <= len(want); stop++ {
			var got []api.Errno
			for e := range l {
				got = append(got, e)
				if len(got) == stop {
					break
				}
			}
			if !slices.Equal(got, want[:stop]) {
				t.Fatal(got)
			}
		}
		for range 70 {
			s.Bytes([]byte(wrapped("\xf1\x40")))
		}
	}
	for range l {
		s.Bytes([]byte(wrapped("\x99")))
	}
	if got := slices.Collect(l); !slices.Equal(got, want) {
		t.Error(got)
	}
	if got := slices.Collect(s.Errors()); len(got) != 64 || got[60] != api.OK || got[61] != api.ErrCommand {
		t.Error(got)
	}
}

// P25.1: Out returns what is to be sent once; nothing is lost between two calls, and nothing is new without one.
func TestOut(t *testing.T) {
	s := newSession(t, usual())
	for range 3 {
		checkOut(t, "new", s, "")
	}
	s.Bytes([]byte(toExt))
	s.Bytes([]byte(headed(0, 2, 1, form)))
	s.Type("A")
	s.Key(keys.Key{Kind: keys.PF, N: 24})
	s.Bytes([]byte(headed(0, 2, 2, "\xf6")))
	checkOut(t, "all", s, saysExt+positive(1)+headed(0, 0, 0, "\x4c\x40\xc2\x11\x40\xc1\xc1")+headed(0, 0, 1, "\x4c\x40\xc2\x11\x40\xc1\xc1")+positive(2))
	s.Bytes(nil)
	s.Bytes([]byte("\xff\xf1"))
	checkOut(t, "nothing", s, "")
}
