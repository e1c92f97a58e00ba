package telnet_test

import (
	"bytes"
	"slices"
	"testing"

	"vitrine/api"
	"vitrine/telnet"
)

// equal holds events against each other field by field; an empty slice is equal to none.
func equal(a, b []telnet.Event) bool {
	return slices.EqualFunc(a, b, func(x, y telnet.Event) bool {
		return x.Kind == y.Kind && x.Verb == y.Verb && x.Option == y.Option && bytes.Equal(x.Data, y.Data) && x.Long == y.Long && x.Broken == y.Broken
	})
}

func data(s string) telnet.Event {
	return telnet.Event{Kind: telnet.Data, Data: []byte(s)}
}

func command(verb byte) telnet.Event {
	return telnet.Event{Kind: telnet.Command, Verb: verb}
}

func option(verb, option byte) telnet.Event {
	return telnet.Event{Kind: telnet.Option, Verb: verb, Option: option}
}

func sub(option byte, s string) telnet.Event {
	return telnet.Event{Kind: telnet.Sub, Option: option, Data: []byte(s)}
}

func broken(option byte, s string) telnet.Event {
	return telnet.Event{Kind: telnet.Sub, Option: option, Data: []byte(s), Broken: true}
}

// elements reads a whole stream with its end in sight, as the document describes it, and tells whether its last element is incomplete.
func elements(p []byte) (l []telnet.Event, incomplete bool) {
	for len(p) > 0 {
		e, n := element(p)
		if n == 0 {
			return l, true
		}
		p = p[n:]
		if last := len(l) - 1; e.Kind == telnet.Data && last >= 0 && l[last].Kind == telnet.Data {
			l[last].Data = append(l[last].Data, e.Data...)
			continue
		}
		l = append(l, e)
	}
	return l, false
}

// element reads the first element and its length, which is 0 if it is incomplete.
func element(p []byte) (telnet.Event, int) {
	switch {
	case p[0] != 0xff:
		return data(string(p[:1])), 1
	case len(p) < 2:
		return telnet.Event{}, 0
	case p[1] == 0xff:
		return data("\xff"), 2
	case p[1] == 0xfa:
		return subnegotiation(p)
	case p[1] < 0xfa:
		return command(p[1]), 2
	case len(p) < 3:
		return telnet.Event{}, 0
	}
	return option(p[1], p[2]), 3
}

func subnegotiation(p []byte) (telnet.Event, int) {
	if len(p) < 3 {
		return telnet.Event{}, 0
	}
	e := sub(p[2], "")
	for i := 3; i < len(p); i++ {
		if p[i] == 0xff {
			switch {
			case i+1 == len(p):
				return telnet.Event{}, 0
			case p[i+1] == 0xf0:
				return e, i + 2
			case p[i+1] != 0xff:
				e.Broken = true
				return e, i
			}
			i++
		}
		if len(e.Data) == 256 {
			e.Long = true
		} else {
			e.Data = append(e.Data, p[i])
		}
	}
	return telnet.Event{}, 0
}

// feed feeds pieces to one reader.
func feed(r *telnet.Reader, pieces ...[]byte) []telnet.Event {
	var l []telnet.Event
	for _, p := range pieces {
		l = append(l, r.Feed(p)...)
	}
	return l
}

// P6.1 with fixed answers: each kind of element, what ends it and what breaks it.
func TestFeedExamples(t *testing.T) {
	for _, c := range []struct {
		stream  string
		want    []telnet.Event
		waiting bool
	}{
		{"", nil, false},
		{"abc", []telnet.Event{data("abc")}, false},
		{"a\xff\xffb", []telnet.Event{data("a\xffb")}, false},
		{"\xff\xff\xff\xff", []telnet.Event{data("\xff\xff")}, false},
		{"\xff\xff\xff\xef", []telnet.Event{data("\xff"), command(0xef)}, false},
		{"\xf0\xfa\xfb\xfe\xef", []telnet.Event{data("\xf0\xfa\xfb\xfe\xef")}, false},
		{"\xff\xf1\xff\x00\xff\xf0\xff\xf9", []telnet.Event{command(0xf1), command(0), command(0xf0), command(0xf9)}, false},
		{"a\xff\xf1b", []telnet.Event{data("a"), command(0xf1), data("b")}, false},
		{"\xff\xfb\x18\xff\xfc\x19\xff\xfd\x28\xff\xfe\x00", []telnet.Event{option(0xfb, 0x18), option(0xfc, 0x19), option(0xfd, 0x28), option(0xfe, 0)}, false},
		{"\xff\xfb\xff\xff\xf0", []telnet.Event{option(0xfb, 0xff), command(0xf0)}, false},
		{"\xff\xfd\xfa\x01", []telnet.Event{option(0xfd, 0xfa), data("\x01")}, false},
		{"\xff\xfa\x18\x01\xff\xf0", []telnet.Event{sub(0x18, "\x01")}, false},
		{"\xff\xfa\x18\xff\xf0", []telnet.Event{sub(0x18, "")}, false},
		{"\xff\xfa\x18\xff\xff\xf0\xfa\xff\xff\xff\xf0z", []telnet.Event{sub(0x18, "\xff\xf0\xfa\xff"), data("z")}, false},
		{"\xff\xfa\xff\xff\xf0", []telnet.Event{sub(0xff, "")}, false},
		{"\xff\xfa\xff\x01\xff\xf0", []telnet.Event{sub(0xff, "\x01")}, false},
		{"\xff\xfa\xf0\x01\xff\xf0", []telnet.Event{sub(0xf0, "\x01")}, false},
		{"\xff\xfa\x01\x02\xff\xef", []telnet.Event{broken(1, "\x02"), command(0xef)}, false},
		{"\xff\xfa\x01\x02\xff\xfb\x03", []telnet.Event{broken(1, "\x02"), option(0xfb, 3)}, false},
		{"\xff\xfa\x01\x02\xff\xfb", []telnet.Event{broken(1, "\x02")}, true},
		{"\xff\xfa\x01\xff\xfa\x02\x03\xff\xf0", []telnet.Event{broken(1, ""), sub(2, "\x03")}, false},
		{"\xff\xfa\x01\x02\xff\xfa", []telnet.Event{broken(1, "\x02")}, true},
		{"\xff\xfa\x01\x02\xff\x41b", []telnet.Event{broken(1, "\x02"), command(0x41), data("b")}, false},
		{"a\xff", []telnet.Event{data("a")}, true},
		{"a\xff\xfd", []telnet.Event{data("a")}, true},
		{"a\xff\xfa", []telnet.Event{data("a")}, true},
		{"a\xff\xfa\x18", []telnet.Event{data("a")}, true},
		{"a\xff\xfa\x18\x01", []telnet.Event{data("a")}, true},
		{"a\xff\xfa\x18\x01\xff", []telnet.Event{data("a")}, true},
		{"a\xff\xfa\x18\x01\xff\xff", []telnet.Event{data("a")}, true},
	} {
		r := telnet.NewReader()
		if got := r.Feed([]byte(c.stream)); !equal(got, c.want) {
			t.Errorf("%x: %v, want %v", c.stream, got, c.want)
		}
		if r.Waiting() != c.waiting {
			t.Errorf("%x: Waiting is %v", c.stream, r.Waiting())
		}
	}
}

// P6.1: after IAC, each byte is what the document says it is.
func TestEveryByteAfterIAC(t *testing.T) {
	for n := range 256 {
		b := byte(n)
		want := []telnet.Event{command(b), data("\x01")}
		waiting := false
		switch b {
		case 0xff:
			want = []telnet.Event{data("\xff\x01")}
		case 0xfa:
			want, waiting = nil, true
		case 0xfb, 0xfc, 0xfd, 0xfe:
			want = []telnet.Event{option(b, 1)}
		}
		r := telnet.NewReader()
		if got := r.Feed([]byte{0xff, b, 1}); !equal(got, want) || r.Waiting() != waiting {
			t.Errorf("ff %02x 01: %v, waiting %v", b, got, r.Waiting())
		}
		r = telnet.NewReader()
		got := r.Feed([]byte{0xff, 0xfa, 0x18, 0x07, 0xff, b, 1})
		switch b {
		case 0xff:
			want, waiting = nil, true
		case 0xf0:
			want = []telnet.Event{sub(0x18, "\x07"), data("\x01")}
		default:
			want = append([]telnet.Event{broken(0x18, "\x07")}, want...)
		}
		if !equal(got, want) || r.Waiting() != waiting {
			t.Errorf("ff fa 18 07 ff %02x 01: %v, waiting %v", b, got, r.Waiting())
		}
	}
}

// P6.1: options and subnegotiations of every option, and all bytes in a subnegotiation.
func TestEveryOption(t *testing.T) {
	var all []byte
	for n := range 256 {
		all = append(all, byte(n))
	}
	for n := range 256 {
		b := byte(n)
		for _, verb := range []byte{0xfb, 0xfc, 0xfd, 0xfe} {
			r := telnet.NewReader()
			if got := r.Feed(telnet.Say(verb, b)); !equal(got, []telnet.Event{option(verb, b)}) || r.Waiting() {
				t.Errorf("Say(%02x, %02x): %v", verb, b, got)
			}
		}
		r := telnet.NewReader()
		if got := r.Feed(telnet.SubBytes(b, all)); !equal(got, []telnet.Event{sub(b, string(all))}) || r.Waiting() {
			t.Errorf("SubBytes(%02x): %v", b, got)
		}
	}
}

// P6.1: a subnegotiation of up to MaxSub bytes is whole, a longer one is long; a doubled ff is one byte.
func TestLongSubnegotiations(t *testing.T) {
	for _, fill := range []string{"\x07", "\xff"} {
		for _, n := range []int{0, 1, api.MaxSub - 1, api.MaxSub, api.MaxSub + 1, api.MaxSub + 2, 2*api.MaxSub + 1, 5000} {
			whole := bytes.Repeat([]byte(fill), n)
			want := sub(0x18, string(whole[:min(n, 256)]))
			want.Long = n > 256
			stream := telnet.SubBytes(0x18, whole)
			r := telnet.NewReader()
			if got := r.Feed(stream); !equal(got, []telnet.Event{want}) || r.Waiting() {
				t.Errorf("%d bytes %x: %v", n, fill, got)
			}
			var l []telnet.Event
			for _, b := range stream {
				l = append(l, r.Feed([]byte{b})...)
			}
			if !equal(l, []telnet.Event{want}) || r.Waiting() {
				t.Errorf("%d bytes %x, one by one: %v", n, fill, l)
			}
			want.Broken = true
			stream[len(stream)-1] = 0xef
			if got := r.Feed(stream); !equal(got, []telnet.Event{want, command(0xef)}) || r.Waiting() {
				t.Errorf("%d bytes %x, broken: %v", n, fill, got)
			}
		}
	}
}

// P6.1: what a subnegotiation was does not stay for the next one.
func TestSubnegotiationsAfterLongAndBrokenOnes(t *testing.T) {
	long := telnet.SubBytes(0x18, make([]byte, 300))
	r := telnet.NewReader()
	got := feed(r, long, []byte("\xff\xfa\x28\x01\xff\xf1"), []byte("\xff\xfa\x19\xff\xf0"))
	want := sub(0x18, string(make([]byte, 256)))
	want.Long = true
	if !equal(got, []telnet.Event{want, broken(0x28, "\x01"), command(0xf1), sub(0x19, "")}) {
		t.Error(got)
	}
}

// P6.1: an event comes with the byte that completes it, and not with a later one.
func TestWhenEventsCome(t *testing.T) {
	stream := []byte("a\xff\xff\xff\xfd\x18\xff\xfa\x18\x01\xff\xff\xff\xf0\xff\xf1\xff\xfa\x02\x05\xff\xfb\x03\xff\xfa\x04\xff\xf2b")
	r := telnet.NewReader()
	before := 0
	for i := range stream {
		l, incomplete := elements(stream[:i+1])
		size := 0
		for _, e := range l {
			if e.Kind == telnet.Data {
				size += len(e.Data)
			} else {
				size++
			}
		}
		if got := r.Feed(stream[i : i+1]); len(got) != size-before {
			t.Errorf("byte %d: %v", i, got)
		}
		if r.Waiting() != incomplete {
			t.Errorf("byte %d: Waiting is %v", i, r.Waiting())
		}
		before = size
	}
}

// P6.1 and P6.3: all short streams of the bytes that matter, at once, split at every place, and one by one.
func TestAllShortStreams(t *testing.T) {
	signs := []byte{'a', 0xff, 0xfa, 0xf0, 0xfd, 0xef}
	for size := 1; size <= 6; size++ {
		p := make([]byte, size)
		count := 1
		for range size {
			count *= len(signs)
		}
		for n := range count {
			for i := range p {
				p[i] = signs[n%len(signs)]
				n /= len(signs)
			}
			checkSplits(t, p)
		}
	}
}

func checkSplits(t *testing.T, p []byte) {
	t.Helper()
	want, waiting := elements(p)
	check := func(pieces ...[]byte) {
		r := telnet.NewReader()
		l := feed(r, pieces...)
		for _, e := range l {
			if e.Kind == telnet.Data && len(e.Data) == 0 {
				t.Fatalf("%x: an event without data", pieces)
			}
		}
		if got := telnet.Merge(l); !equal(got, want) || r.Waiting() != waiting {
			t.Fatalf("%x: %v, want %v", pieces, got, want)
		}
		if len(pieces) == 1 && !equal(l, want) {
			t.Fatalf("%x: %v is not merged", p, l)
		}
	}
	check(p)
	var single [][]byte
	for i := range p {
		check(p[:i], p[i:])
		single = append(single, p[i:i+1])
	}
	check(single...)
	if got := slices.Collect(telnet.Events(p)); !equal(got, want) {
		t.Fatalf("Events(%x): %v, want %v", p, got, want)
	}
}

// P6.3: every way of splitting one stream that has all kinds of elements.
func TestEverySplitting(t *testing.T) {
	p := []byte("a\xff\xff\xff\xfb\x18\xff\xfa\x18\x01\xff\xff\xff\xfa\x02\xff\xf0")
	want, _ := elements(p)
	for cuts := range 1 << (len(p) - 1) {
		r := telnet.NewReader()
		var l []telnet.Event
		from := 0
		for i := range p {
			if i == len(p)-1 || cuts>>i&1 == 1 {
				l = append(l, r.Feed(p[from:i+1])...)
				from = i + 1
			}
		}
		if got := telnet.Merge(l); !equal(got, want) || r.Waiting() {
			t.Fatalf("cuts %b: %v", cuts, got)
		}
	}
}

// P6.3: a long stream in pieces of every length.
func TestPiecesOfALongStream(t *testing.T) {
	var p []byte
	state := uint32(1)
	for range 20000 {
		state = state*1664525 + 1013904223
		p = append(p, []byte("ab\xff\xff\xff\xfa\xf0\xf0\xfb\xef\x18")[state>>16%11])
	}
	p = append(p, telnet.SubBytes(0x18, p[:3000])...)
	want, waiting := elements(p)
	for _, size := range []int{1, 2, 3, 4, 5, 7, 16, 255, 256, 257, 4096, len(p)} {
		r := telnet.NewReader()
		l := feed(r, slices.Collect(slices.Chunk(p, size))...)
		if got := telnet.Merge(l); !equal(got, want) || r.Waiting() != waiting {
			t.Errorf("pieces of %d: %d events, want %d", size, len(got), len(want))
		}
	}
}

// P6.1: consecutive data within one call are one event; across calls they may be split.
func TestDataWithinACall(t *testing.T) {
	r := telnet.NewReader()
	if got := r.Feed([]byte("ab\xff")); !equal(got, []telnet.Event{data("ab")}) || !r.Waiting() {
		t.Error(got)
	}
	if got := r.Feed([]byte("\xffcd\xff\xffe")); !equal(got, []telnet.Event{data("\xffcd\xffe")}) || r.Waiting() {
		t.Error(got)
	}
}

// P6.1, P1: nothing that is fed changes nothing, and a nil reader has nothing.
func TestNoBytesAndNoReader(t *testing.T) {
	r := telnet.NewReader()
	if r == nil || r.Waiting() {
		t.Fatal("a new reader waits")
	}
	if got := feed(r, []byte("\xff"), nil, []byte{}, []byte("\xfd"), nil, []byte("\x18")); !equal(got, []telnet.Event{option(0xfd, 0x18)}) {
		t.Error(got)
	}
	if l := r.Feed(nil); len(l) != 0 || r.Waiting() {
		t.Error(l)
	}
	var none *telnet.Reader
	if l := none.Feed([]byte("ab\xff\xf1\xff")); len(l) != 0 || none.Waiting() {
		t.Error(l)
	}
	if l := none.Feed(nil); len(l) != 0 {
		t.Error(l)
	}
}

// P2: readers do not hang on each other.
func TestTwoReaders(t *testing.T) {
	a, b := telnet.NewReader(), telnet.NewReader()
	a.Feed([]byte("\xff\xfa\x18\x01"))
	b.Feed([]byte("\xff\xfa\x28\x02\xff"))
	if got := a.Feed([]byte("\x03\xff\xf0")); !equal(got, []telnet.Event{sub(0x18, "\x01\x03")}) || a.Waiting() || !b.Waiting() {
		t.Error(got)
	}
	if got := b.Feed([]byte("\xf0")); !equal(got, []telnet.Event{sub(0x28, "\x02")}) || b.Waiting() {
		t.Error(got)
	}
}
