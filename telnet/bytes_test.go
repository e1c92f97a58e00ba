package telnet_test

import (
	"bytes"
	"slices"
	"testing"

	"vitrine/telnet"
)

// overwrite fills a slice and its spare capacity.
func overwrite[T any](l []T, value T) {
	whole := l[:cap(l)]
	for i := range whole {
		whole[i] = value
	}
}

// overwriteAll fills the slices of events, and then the events.
func overwriteAll(l []telnet.Event) {
	for _, e := range l {
		overwrite(e.Data, 0x99)
	}
	overwrite(l, telnet.Event{Kind: 99})
}

// P6.2: what is sent.
func TestEscape(t *testing.T) {
	for p, want := range map[string]string{
		"": "", "abc": "abc", "\xff": "\xff\xff", "\xff\xff": "\xff\xff\xff\xff", "a\xffb\xff": "a\xff\xffb\xff\xff", "\xfe\xf0\x00": "\xfe\xf0\x00",
	} {
		if got := telnet.Escape([]byte(p)); string(got) != want {
			t.Errorf("Escape(%x) is %x", p, got)
		}
	}
	if got := telnet.Escape(nil); len(got) != 0 {
		t.Errorf("Escape(nil) is %x", got)
	}
}

// P6.2: any bytes are said as they are, also those that are no verbs and no options.
func TestSay(t *testing.T) {
	for verb := range 256 {
		for option := range 256 {
			if got := telnet.Say(byte(verb), byte(option)); !bytes.Equal(got, []byte{0xff, byte(verb), byte(option)}) {
				t.Fatalf("Say(%02x, %02x) is %x", verb, option, got)
			}
		}
	}
}

// P6.2: only the bytes behind the option are escaped, and none is left out.
func TestSubBytes(t *testing.T) {
	for _, c := range []struct {
		option  byte
		p, want string
	}{
		{0x18, "\x01", "\xff\xfa\x18\x01\xff\xf0"},
		{0x28, "\x08\xff", "\xff\xfa\x28\x08\xff\xff\xff\xf0"},
		{0x28, "\xff\xf0\xff", "\xff\xfa\x28\xff\xff\xf0\xff\xff\xff\xf0"},
		{0x00, "", "\xff\xfa\x00\xff\xf0"},
		{0xff, "\x01", "\xff\xfa\xff\x01\xff\xf0"},
	} {
		if got := telnet.SubBytes(c.option, []byte(c.p)); string(got) != c.want {
			t.Errorf("SubBytes(%02x, %x) is %x", c.option, c.p, got)
		}
	}
	if got := telnet.SubBytes(1, nil); string(got) != "\xff\xfa\x01\xff\xf0" {
		t.Errorf("SubBytes(1, nil) is %x", got)
	}
	if got := telnet.SubBytes(1, make([]byte, 5000)); len(got) != 5005 {
		t.Errorf("SubBytes of 5000 bytes has %d", len(got))
	}
}

// P6.2: what is escaped comes as the data that it was.
func TestEscapedDataComeBack(t *testing.T) {
	var all []byte
	for n := range 512 {
		all = append(all, byte(n*7))
	}
	r := telnet.NewReader()
	if got := r.Feed(telnet.Escape(all)); !equal(got, []telnet.Event{data(string(all))}) || r.Waiting() {
		t.Error(got)
	}
}

// P6.2: data next to each other, without bytes, with fields that data do not have; other events of any kind.
func TestMerge(t *testing.T) {
	long := telnet.Event{Kind: telnet.Sub, Verb: 1, Option: 2, Data: []byte("s"), Long: true, Broken: true}
	odd := telnet.Event{Kind: telnet.Command, Verb: 0xf1, Option: 3, Data: []byte("c"), Long: true, Broken: true}
	unknown, below := telnet.Event{Kind: 7, Data: []byte("u")}, telnet.Event{Kind: -1, Verb: 2}
	full := telnet.Event{Kind: telnet.Data, Verb: 1, Option: 2, Data: []byte("f"), Long: true, Broken: true}
	for _, c := range []struct{ l, want []telnet.Event }{
		{nil, nil},
		{[]telnet.Event{}, nil},
		{[]telnet.Event{{}}, nil},
		{[]telnet.Event{data("a")}, []telnet.Event{data("a")}},
		{[]telnet.Event{data("a"), data("bc"), data("\xff")}, []telnet.Event{data("abc\xff")}},
		{[]telnet.Event{data(""), data("a"), data(""), data("b"), data("")}, []telnet.Event{data("ab")}},
		{[]telnet.Event{{Kind: telnet.Data, Verb: 1, Long: true}, command(1)}, []telnet.Event{command(1)}},
		{[]telnet.Event{full}, []telnet.Event{data("f")}},
		{[]telnet.Event{full, full}, []telnet.Event{data("ff")}},
		{[]telnet.Event{data("a"), command(1), data("b"), data("c"), option(0xfb, 2), data("d")}, []telnet.Event{data("a"), command(1), data("bc"), option(0xfb, 2), data("d")}},
		{[]telnet.Event{command(1), command(1), sub(1, "x"), sub(1, "y"), sub(1, "")}, []telnet.Event{command(1), command(1), sub(1, "x"), sub(1, "y"), sub(1, "")}},
		{[]telnet.Event{long, long, odd, unknown, unknown, below}, []telnet.Event{long, long, odd, unknown, unknown, below}},
		{[]telnet.Event{data("a"), unknown, data("b"), below, data("c")}, []telnet.Event{data("a"), unknown, data("b"), below, data("c")}},
		{[]telnet.Event{command(1), data(""), command(2)}, []telnet.Event{command(1), command(2)}},
	} {
		got := telnet.Merge(c.l)
		if !equal(got, c.want) {
			t.Errorf("Merge(%v) is %v", c.l, got)
		}
		if again := telnet.Merge(got); !equal(again, got) {
			t.Errorf("Merge(%v) is %v", got, again)
		}
	}
}

// P6.2: the events of a whole stream, without an incomplete element.
func TestEvents(t *testing.T) {
	for _, c := range []struct {
		stream string
		want   []telnet.Event
	}{
		{"", nil},
		{"a\xff\xffb", []telnet.Event{data("a\xffb")}},
		{"a\xff\xf1b\xff\xfb\x18\xff\xfa\x18\x01\xff\xf0c", []telnet.Event{data("a"), command(0xf1), data("b"), option(0xfb, 0x18), sub(0x18, "\x01"), data("c")}},
		{"a\xff", []telnet.Event{data("a")}},
		{"a\xff\xfd", []telnet.Event{data("a")}},
		{"a\xff\xfa", []telnet.Event{data("a")}},
		{"a\xff\xfa\x18\x01", []telnet.Event{data("a")}},
		{"a\xff\xfa\x18\x01\xff", []telnet.Event{data("a")}},
		{"a\xff\xfa\x18\x01\xff\xfa", []telnet.Event{data("a"), broken(0x18, "\x01")}},
	} {
		if got := slices.Collect(telnet.Events([]byte(c.stream))); !equal(got, c.want) {
			t.Errorf("Events(%x): %v", c.stream, got)
		}
	}
	for e := range telnet.Events(nil) {
		t.Error(e)
	}
}

// The rule of iterators: the same each time, and nothing after a stop.
func TestEventsAgainAndStopped(t *testing.T) {
	events := telnet.Events([]byte("a\xff\xf1b\xff\xfa\x18\x01\xff\xf0\xff"))
	want := []telnet.Event{data("a"), command(0xf1), data("b"), sub(0x18, "\x01")}
	for range 2 {
		got := slices.Collect(events)
		if !equal(got, want) {
			t.Error(got)
		}
		overwriteAll(got)
	}
	for stop := range want {
		var got []telnet.Event
		for e := range events {
			got = append(got, e)
			if len(got) == stop+1 {
				break
			}
		}
		if !equal(got, want[:stop+1]) {
			t.Errorf("stopped after %d: %v", stop+1, got)
		}
	}
}

// The rule of memory: arguments are not changed, including their spare capacity, and not kept.
func TestArguments(t *testing.T) {
	stream := "\xff\xffa\xff\xfa\x18\x01\x02"
	room := []byte(stream + "\x99\x99\x99\x99\x99\x99\x99\x99\x99\x99\x99\x99")
	before := bytes.Clone(room)
	p := room[:len(stream)]
	r := telnet.NewReader()
	l, events := r.Feed(p), telnet.Events(p)
	escaped, said := telnet.Escape(p), telnet.SubBytes(3, p)
	if !bytes.Equal(room, before) {
		t.Errorf("the argument became %x", room)
	}
	overwrite(p, 0x77)
	if !equal(l, []telnet.Event{data("\xffa")}) || !equal(slices.Collect(events), l) {
		t.Errorf("Feed or Events keeps its argument: %v", l)
	}
	if got := r.Feed([]byte("\xff\xf0")); !equal(got, []telnet.Event{sub(0x18, "\x01\x02")}) {
		t.Errorf("the reader keeps its argument: %v", got)
	}
	if string(escaped) != "\xff\xff\xff\xffa\xff\xff\xfa\x18\x01\x02" || string(said[3:len(said)-2]) != string(escaped) {
		t.Errorf("Escape is %x, SubBytes is %x", escaped, said)
	}
	plain := []byte("abc")
	escaped = telnet.Escape(plain)
	overwrite(plain, 0x77)
	if string(escaped) != "abc" {
		t.Errorf("Escape became %x", escaped)
	}
}

// The rule of memory: Merge changes no event that it is given, and keeps none.
func TestArgumentsOfMerge(t *testing.T) {
	room := []telnet.Event{{Data: []byte("axx")[:1]}, data("b"), sub(1, "s"), data("c"), command(9)}
	before := []telnet.Event{data("a"), data("b"), sub(1, "s"), data("c"), command(9)}
	got := telnet.Merge(room[:4])
	if !equal(room, before) || string(room[0].Data[:3]) != "axx" {
		t.Errorf("the argument of Merge became %v", room)
	}
	overwriteAll(room)
	if want := []telnet.Event{data("ab"), sub(1, "s"), data("c")}; !equal(got, want) {
		t.Errorf("Merge became %v", got)
	}
}

// The rule of memory, and P2: results are new memory, also beside each other.
func TestResults(t *testing.T) {
	stream := []byte("ab\xff\xf1cd\xff\xfa\x18\x01\xff\xf0\xff\xfa\x28\x02\xff\xf0e")
	want, _ := elements(stream)
	for name, call := range map[string]func() []telnet.Event{
		"Feed":   func() []telnet.Event { return telnet.NewReader().Feed(stream) },
		"Events": func() []telnet.Event { return slices.Collect(telnet.Events(stream)) },
		"Merge":  func() []telnet.Event { return telnet.Merge(want) },
	} {
		for i := range want {
			l, other := call(), call()
			overwrite(l[i].Data, 0x99)
			l[i].Data = want[i].Data
			if !equal(l, want) || !equal(other, want) {
				t.Errorf("%s: event %d shares memory: %v", name, i, l)
			}
		}
	}
	for name, call := range map[string]func() []byte{
		"Escape":   func() []byte { return telnet.Escape([]byte("a\xff")) },
		"Say":      func() []byte { return telnet.Say(0xfb, 1) },
		"SubBytes": func() []byte { return telnet.SubBytes(1, []byte("a")) },
	} {
		first, second := call(), call()
		before := bytes.Clone(second)
		overwrite(first, 0x99)
		if !bytes.Equal(second, before) || !bytes.Equal(call(), before) {
			t.Errorf("%s is shared", name)
		}
	}
}

// The rule of memory: what a reader gave does not change what it gives later.
func TestResultsOfOneReader(t *testing.T) {
	r := telnet.NewReader()
	for range 3 {
		l := r.Feed([]byte("a\xff\xfa\x18\x01\xff\xf0\xff\xfa\x28\x02"))
		if !equal(l, []telnet.Event{data("a"), sub(0x18, "\x01")}) {
			t.Error(l)
		}
		later := r.Feed([]byte("\x03\xff"))
		overwriteAll(l)
		last := r.Feed([]byte("\xf0b"))
		if len(later) != 0 || !equal(last, []telnet.Event{sub(0x28, "\x02\x03"), data("b")}) {
			t.Error(later, last)
		}
		kept := telnet.Merge(last)
		r.Feed([]byte("\xff\xfa\x28\x09\x09\xff\xf0c"))
		if !equal(last, kept) {
			t.Errorf("%v became %v", kept, last)
		}
	}
}
