package host_test

import (
	"bytes"
	"fmt"
	"iter"
	"math/rand/v2"
	"slices"
	"strings"
	"testing"

	"vitrine/header"
	"vitrine/host"
	"vitrine/telnet"
)

func samePiece(a, b host.Piece) bool {
	return a.Header == b.Header && a.Headed == b.Headed && bytes.Equal(a.Data, b.Data)
}

func bare(data string) host.Piece {
	return host.Piece{Data: []byte(data)}
}

func headed(h header.Header, data string) host.Piece {
	return host.Piece{Header: h, Headed: true, Data: []byte(data)}
}

func expectPieces(t *testing.T, p string, with bool, want ...host.Piece) {
	t.Helper()
	each := host.Pieces([]byte(p), with)
	for range 2 {
		var got []host.Piece
		for one := range each {
			got = append(got, one)
		}
		if !slices.EqualFunc(got, want, samePiece) {
			t.Fatalf("Pieces of %.80x, %t: %.200s, want %.200s", p, with, fmt.Sprint(got), fmt.Sprint(want))
		}
	}
}

// P24.2: streams with no record, one and several, and with what is no record.
func TestPieces(t *testing.T) {
	for _, c := range []struct {
		p    string
		want []string
	}{
		{"", nil},
		{"A", nil},
		{"\xff", nil},
		{"A\xff", nil},
		{"\xff\xef", []string{""}},
		{"A\xff\xef", []string{"A"}},
		{"A\xff\xefB", []string{"A"}},
		{"A\xff\xefB\xff", []string{"A"}},
		{"A\xff\xef\xff\xefBC\xff\xef", []string{"A", "", "BC"}},
		{"A\xff\xffB\xff\xff\xef\xff\xef", []string{"A\xffB\xff\xef"}},
		{"\xff\xfd\x19A\xff\xf1\xff\xfa\x18\x01\xff\xf0B\xff\xef\xff\xfb\x00", []string{"AB"}},
		{"A\xff\xfa\x18\x00X\xff\xef", []string{"A"}},
		{"\xff\xfa\x18A\xef\xff\xf0\xff\xef", []string{""}},
		{"\x00\x00\x00\x00\x05AB", nil},
	} {
		var want []host.Piece
		for _, s := range c.want {
			want = append(want, bare(s))
		}
		expectPieces(t, c.p, false, want...)
		expectPieces(t, c.p, true, want...)
	}
	for one := range host.Pieces(nil, true) {
		t.Errorf("a piece of nothing: %v", one)
	}
}

// P24.2: records with headers, of each type and response, and those whose header is invalid, which stay whole.
func TestHeadedPieces(t *testing.T) {
	for kind := range 256 {
		for response := range 256 {
			front := string([]byte{byte(kind), 0x33, byte(response), 0x12, 0x34})
			sent := string(host.Wrap([]byte(front + "AB")))
			h := header.Header{Type: byte(kind), Request: 0x33, Response: byte(response), Seq: 0x1234}
			want := headed(h, "AB")
			if kind > 8 || response > 2 || kind == 2 && response > 1 {
				want = bare(front + "AB")
			}
			expectPieces(t, sent, true, want)
			expectPieces(t, sent, false, bare(front+"AB"))
		}
	}
}

// P24.2: records that are too short for a header, and a header alone.
func TestShortPieces(t *testing.T) {
	whole := "\x05\x01\x02\xff\xfeABC"
	for n := range len(whole) + 1 {
		want := bare(whole[:n])
		if n >= 5 {
			want = headed(header.Header{Type: 5, Request: 1, Response: 2, Seq: 0xfffe}, whole[5:n])
		}
		expectPieces(t, string(host.Wrap([]byte(whole[:n])))+"A\xff\xef", true, want, bare("A"))
		expectPieces(t, string(host.Wrap([]byte(whole[:n])))+"A\xff\xef", false, bare(whole[:n]), bare("A"))
	}
}

// P24.2: long records are left out, with a header and without; those around them stay.
func TestLongPieces(t *testing.T) {
	for _, n := range []int{8186, 8187, 8188, 8192, 8193, 9000, 20000} {
		data := strings.Repeat("x", n)
		front := "\x00\x00\x01\x00\x07"
		var want []host.Piece
		if n+5 <= 8192 {
			want = []host.Piece{headed(header.Header{Response: 1, Seq: 7}, data)}
		}
		around := func(l []host.Piece) []host.Piece {
			return append(append([]host.Piece{bare("A")}, l...), bare("B"))
		}
		expectPieces(t, front+data+"\xff\xef", true, want...)
		expectPieces(t, "A\xff\xef"+front+data+"\xff\xefB\xff\xef", true, around(want)...)
		if len(want) > 0 {
			want = []host.Piece{bare(front + data)}
		}
		expectPieces(t, "A\xff\xef"+front+data+"\xff\xefB\xff\xef", false, around(want)...)
	}
	expectPieces(t, strings.Repeat(strings.Repeat("x", 8193)+"\xff\xef", 3), false)
}

// The rule of iterators: pieces may be left before their end, and gone through again.
func TestLeftPieces(t *testing.T) {
	for _, with := range []bool{false, true} {
		each := host.Pieces([]byte("A\xff\xef\x00\x00\x00\x00\x05B\xff\xefC\xff\xef"), with)
		for stop := range 4 {
			n := 0
			for range each {
				if n++; n > stop {
					break
				}
			}
			if n != min(stop+1, 3) {
				t.Errorf("%d pieces, left behind %d", n, stop+1)
			}
		}
		next, end := iter.Pull(each)
		if one, ok := next(); !ok || string(one.Data) != "A" {
			t.Errorf("the first piece is %v, %t", one, ok)
		}
		end()
	}
}

// said are a stream, and the options and subnegotiations in it.
const said = "A\xff\xfd\x18BC\xff\xfa\x18\x01\xff\xf0\xff\xef\xff\xf1\xff\xfb\x00\xff\xffD\xff\xfa\x28\xff\xff\x02\xff\xf0\xff\xfc\xff\xff\xfe\x19\xff\xfa\x19AB\xff\xf3\xff\xfa\x01"

func saidEvents() []telnet.Event {
	return []telnet.Event{
		{Kind: telnet.Option, Verb: 0xfd, Option: 0x18},
		{Kind: telnet.Sub, Option: 0x18, Data: []byte{1}},
		{Kind: telnet.Option, Verb: 0xfb, Option: 0x00},
		{Kind: telnet.Sub, Option: 0x28, Data: []byte{0xff, 2}},
		{Kind: telnet.Option, Verb: 0xfc, Option: 0xff},
		{Kind: telnet.Option, Verb: 0xfe, Option: 0x19},
		{Kind: telnet.Sub, Option: 0x19, Data: []byte("AB"), Broken: true},
	}
}

func sameEvent(a, b telnet.Event) bool {
	return a.Kind == b.Kind && a.Verb == b.Verb && a.Option == b.Option && bytes.Equal(a.Data, b.Data) && a.Long == b.Long && a.Broken == b.Broken
}

func expectSaid(t *testing.T, p string, want ...telnet.Event) {
	t.Helper()
	if got := host.Said([]byte(p)); !slices.EqualFunc(got, want, sameEvent) {
		t.Fatalf("Said of %.80x: %.300s, want %.300s", p, fmt.Sprint(got), fmt.Sprint(want))
	}
}

// P24.2: options and subnegotiations between data and commands, long and broken ones, and those that are incomplete.
func TestSaid(t *testing.T) {
	expectSaid(t, "")
	expectSaid(t, "ABC\xff\xef\xff\xff\xff\xf1\xff\xf0\xff\xf9")
	expectSaid(t, "\xff\xfd")
	expectSaid(t, "\xff\xfa\x18\x01\xff")
	expectSaid(t, said, saidEvents()...)
	for _, verb := range []byte{0xfb, 0xfc, 0xfd, 0xfe} {
		for option := range 256 {
			expectSaid(t, "A"+string([]byte{0xff, verb, byte(option)})+"B", telnet.Event{Kind: telnet.Option, Verb: verb, Option: byte(option)})
		}
	}
	for _, n := range []int{0, 1, 255, 256, 257, 1000} {
		kept := min(n, 256)
		expectSaid(t, "\xff\xfa\x18"+strings.Repeat("x", n)+"\xff\xf0", telnet.Event{Kind: telnet.Sub, Option: 0x18, Data: bytes.Repeat([]byte("x"), kept), Long: n > 256})
		expectSaid(t, "\xff\xfa\x18"+strings.Repeat("x", n)+"\xff\xfd\x01", telnet.Event{Kind: telnet.Sub, Option: 0x18, Data: bytes.Repeat([]byte("x"), kept), Long: n > 256, Broken: true},
			telnet.Event{Kind: telnet.Option, Verb: 0xfd, Option: 1})
	}
	if l := host.Said(nil); len(l) != 0 {
		t.Errorf("Said of nothing: %v", l)
	}
}

func expectName(t *testing.T, p, want string, found bool) {
	t.Helper()
	if name, ok := host.Name([]byte(p)); name != want || ok != found {
		t.Fatalf("Name of %.80x: %q, %t, want %q, %t", p, name, ok, want, found)
	}
}

// is is an answer to TERMINAL-TYPE.
func is(name string) string {
	return "\xff\xfa\x18\x00" + name + "\xff\xf0"
}

// P24.2: the name in the first answer that is neither long nor broken.
func TestName(t *testing.T) {
	for _, p := range []string{
		"", "IBM-3278-2", "\xff\xfb\x18", "\xff\xfa\x18\xff\xf0", "\xff\xfa\x18\x01\xff\xf0", "\xff\xfa\x18\x01IBM\xff\xf0", "\xff\xfa\x18\x02IBM\xff\xf0", "\xff\xfa\x18IBM\xff\xf0",
		"\xff\xfa\x28\x00IBM\xff\xf0", "\xff\xfa\x00\x18IBM\xff\xf0", "\xff\xfa\x18\x00IBM", "\xff\xfa\x18\x00IBM\xff", "\xff\xfa\x18\x00IBM\xff\xef", "\xff\xfa\x18\x00IBM\xff\xfb\x18",
		is(strings.Repeat("x", 256)), is(strings.Repeat("x", 1000)),
	} {
		expectName(t, p, "", false)
		expectName(t, p+"\xff\xf1"+is("LATER")+is("LAST"), "LATER", true)
	}
	for _, name := range []string{"I", "IBM-3278-2-E", strings.Repeat("x", 40), "a b"} {
		for _, front := range []string{"", "A", "\xff\xef", "\xff\xfb\x18", "\xff\xff\xff\xff", "\xff\xfa\x28\x00IBM\xff\xf0"} {
			expectName(t, front+is(name), name, true)
			expectName(t, front+is(name)+is("OTHER")+"\xff\xfa\x18\x00", name, true)
			expectName(t, front+is(name)+is(strings.Repeat("x", 300)), name, true)
		}
	}
	expectName(t, is("A\xff\xffB"), "A\xffB", true)
	if name, ok := host.Name(nil); name != "" || ok {
		t.Errorf("Name of nothing: %q, %t", name, ok)
	}
}

// P24.2: an answer is taken as it is, also with what is no name by layer 10.
func TestOddNames(t *testing.T) {
	expectName(t, is("")+is("B"), "", true)
	expectName(t, is("A\x00")+is("B"), "A\x00", true)
	expectName(t, is(strings.Repeat("x", 41))+is("B"), strings.Repeat("x", 41), true)
	expectName(t, is(strings.Repeat("x", 255))+is("B"), strings.Repeat("x", 255), true)
}

// P24.2: streams by chance, put together from their elements, so that what is in them is known.
func TestStreamsByChance(t *testing.T) {
	r := rand.New(rand.NewPCG(24, 2))
	for range 3000 {
		p, data, name, named := "", "", "", false
		var pieces, whole []host.Piece
		var events []telnet.Event
		for range r.IntN(15) {
			switch r.IntN(7) {
			case 0, 1:
				s := []string{"A", "\x00\x00\x02\x00\x05", "\xff", "xy", "\x02\x00\x01\x00\x09\x02", "\x09\x00\x00\x00\x00"}[r.IntN(6)]
				p, data = p+string(telnet.Escape([]byte(s))), data+s
			case 2, 3:
				whole = append(whole, bare(data))
				one := bare(data)
				if h, rest, e := header.Parse([]byte(data)); e == 0 {
					one = headed(h, string(rest))
				}
				pieces = append(pieces, one)
				p, data = p+"\xff\xef", ""
			case 4:
				p += "\xff\xf1"
			case 5:
				e := telnet.Event{Kind: telnet.Option, Verb: 0xfb + byte(r.IntN(4)), Option: byte(r.IntN(256))}
				p, events = p+string(telnet.Say(e.Verb, e.Option)), append(events, e)
			case 6:
				e := telnet.Event{Kind: telnet.Sub, Option: []byte{0x18, 0x18, 0x28}[r.IntN(3)], Data: []byte{byte(r.IntN(2)), byte(r.IntN(256))}}
				p, events = p+string(telnet.SubBytes(e.Option, e.Data)), append(events, e)
				if !named && e.Option == 0x18 && e.Data[0] == 0 {
					name, named = string(e.Data[1:]), true
				}
			}
		}
		expectPieces(t, p, false, whole...)
		expectPieces(t, p, true, pieces...)
		expectSaid(t, p, events...)
		expectName(t, p, name, named)
	}
}

// The rule of memory: a stream is not changed, and may be overwritten after the call; no two pieces share anything, and no two events.
func TestStreamsStay(t *testing.T) {
	stream := "\x00\x00\x00\x00\x05AB\xff\xef" + said + "\xff\xf0CD\xff\xefEF\xff\xef" + is("IBM")
	p := spare(stream)
	for _, with := range []bool{false, true} {
		each := host.Pieces(p, with)
		l := host.Said(p)
		name, _ := host.Name(p)
		var first, want []host.Piece
		for one := range each {
			first = append(first, one)
		}
		for one := range host.Pieces([]byte(stream), with) {
			want = append(want, one)
		}
		if !untouched(p, stream) {
			t.Errorf("the stream is %x", p[:cap(p)])
		}
		overwrite(p)
		for i, one := range first {
			overwrite(one.Data)
			if i+1 < len(first) && !samePiece(first[i+1], want[i+1]) {
				t.Errorf("overwriting a piece changes the next one to %v", first[i+1])
			}
		}
		var second []host.Piece
		for one := range each {
			second = append(second, one)
		}
		if !slices.EqualFunc(second, want, samePiece) {
			t.Errorf("after the stream and the pieces are overwritten they are %v, want %v", second, want)
		}
		events := host.Said([]byte(stream))
		for i := range l {
			if !sameEvent(l[i], events[i]) {
				t.Errorf("the event %d is %v, want %v", i, l[i], events[i])
			}
			overwrite(l[i].Data)
		}
		if name != "IBM" || len(l) != len(events) {
			t.Errorf("the name is %q, and there are %d events", name, len(l))
		}
		p = spare(stream)
	}
}
