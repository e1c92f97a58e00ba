package link_test

import (
	"bytes"
	"math/rand"
	"slices"
	"strings"
	"testing"

	"vitrine/api"
	"vitrine/header"
	"vitrine/link"
)

// stream reaches every mode, by and with every kind of element and record.
func stream() string {
	most := strings.Repeat("m", api.MaxRecord+1)
	parts := []string{
		"hi\xff\xff\xff\xffthere", eor, "\xff\xf1", "x", "\xff\xfd\x03", toBasic, sendType, "a\xff\xffb" + eor, eor, "lost", wontBin, "plain" + eor,
		willBin, "\xff\xfa\x18\x01\xff\xef", most + eor, "\xff\xfa\x18" + strings.Repeat("\x01", 300) + "\xff\xf0", "lost", toFuncs, "text\xff\xff", funcsIs,
		"\x00\x00\x02\x00\xff\xff1" + eor, "\x05\x00\x01\x00\x02nvt" + eor, "\x02\x00\x00\x00\x03\x00" + eor, "\x03\x00\x00\x00\x04" + eor,
		"\x09" + eor, eor, "\x06\x00\x02\x00\x05" + most + eor, most + eor, "lost", "\xff\xfa\x28\x03\x07\x04\xff\xf0", "t", funcsIs, "lost", dontExt,
		"basic" + eor, toFuncs, badFuncs, "basic" + eor, dontType, "end\xff\xff", "\xff\xfa\x28\x08",
	}
	return strings.Join(parts, "")
}

// merged combines texts without a header that follow each other, since they may be split.
func merged(l []link.Event) []link.Event {
	var all []link.Event
	for _, e := range l {
		last := len(all) - 1
		if e.Kind == link.Text && !e.Headed && last >= 0 && all[last].Kind == link.Text && !all[last].Headed {
			all[last].Data = append(all[last].Data, e.Data...)
			continue
		}
		e.Data = bytes.Clone(e.Data)
		all = append(all, e)
	}
	return all
}

// run gives a link pieces, answers every event, and returns the events, what was sent, and the link.
func run(t *testing.T, pieces ...string) ([]link.Event, string, *link.Link) {
	t.Helper()
	l := newLink(t, true)
	var events []link.Event
	for _, p := range pieces {
		for e := range l.Take([]byte(p)) {
			events = append(events, e)
			if e.Kind != link.Text {
				l.Send([]byte{byte(e.Kind)})
			}
			l.Respond(e, api.ErrCommand)
		}
	}
	return merged(events), string(l.Out()), l
}

func checkRun(t *testing.T, whole string, pieces ...string) {
	t.Helper()
	wantEvents, wantOut, want := run(t, whole)
	events, out, l := run(t, pieces...)
	if !slices.EqualFunc(events, wantEvents, same) {
		t.Errorf("%x: other events than of the whole", pieces)
	}
	if out != wantOut {
		t.Errorf("%x: %x is sent, of the whole %x", pieces, out, wantOut)
	}
	check(t, l, want.Mode(), want.End().State(), want.Waiting())
}

// The stream of the tests of splitting results in every kind of event.
func TestStream(t *testing.T) {
	events, _, _ := run(t, stream())
	h := func(kind, response byte, seq uint16) header.Header {
		return header.Header{Type: kind, Response: response, Seq: seq}
	}
	long := link.Event{Kind: link.Long}
	want := []link.Event{
		text("hi\xff\xfftherex"), screen("a\xffb"), screen(""), text("plain"), screen(""), long, text("text\xff"),
		headed(link.Screen, h(0, 2, 255), "1"), headed(link.Text, h(5, 1, 2), "nvt"), headed(link.Answer, h(2, 0, 3), "\x00"), headed(link.Other, h(3, 0, 4), ""),
		{Kind: link.Bad, Data: []byte("\x09")}, {Kind: link.Bad}, headed(link.Long, h(6, 2, 5), ""), long, text("t"), screen("basic"), screen("basic"), text("end\xff"),
	}
	if !slices.EqualFunc(events, want, same) {
		t.Errorf("%v, want %v", events, want)
	}
}

// P11.3: a stream that is split at every byte, into two and into single bytes.
func TestEverySplit(t *testing.T) {
	p := stream()
	// A run of a long record's bytes is the same everywhere: there the places around its beginning and its end suffice.
	for at := range len(p) + 1 {
		if at > 20 && at < len(p)-20 && p[at-20:at+20] == strings.Repeat("m", 40) {
			continue
		}
		checkRun(t, p, p[:at], p[at:])
	}
	checkRun(t, p, bytewise(p)...)
	checkRun(t, p, "", p, "")
}

// bytewise has the single bytes of p.
func bytewise(p string) []string {
	var l []string
	for i := range len(p) {
		l = append(l, p[i:i+1])
	}
	return l
}

// P11.3: random streams, made of what matters and of any bytes, in random pieces.
func TestRandomSplits(t *testing.T) {
	r := rand.New(rand.NewSource(11))
	some := []string{
		"a", "\xff", "\xff\xff", eor, doType, dontType, doEOR, dontEOR, willEOR, wontEOR, doBin, dontBin, willBin, wontBin, doExt, dontExt, sendType, sendDev, deviceIs, rejectDev,
		funcsIs, noFuncsIs, badFuncs, toBasic, toFuncs, toExt, "\xff\xfa", "\xff\xf0", "\xff\xf1", "\x00\x00\x02\x00\x05z" + eor, "\x05\x00\x02\x00\x06t" + eor, "b" + eor, "\xff\xfd\x03", "\xff\xfa\x28\x03\x07\x02\xff\xf0",
	}
	for range 2000 {
		p := ""
		for range r.Intn(40) {
			if r.Intn(12) == 0 {
				p += string([]byte{byte(r.Intn(256))})
				continue
			}
			p += some[r.Intn(len(some))]
		}
		checkRun(t, p, bytewise(p)...)
		var pieces []string
		for rest := p; rest != ""; {
			n := 1 + r.Intn(len(rest))
			pieces = append(pieces, rest[:n])
			rest = rest[n:]
		}
		checkRun(t, p, pieces...)
	}
}

// P11.1: what follows an event is not processed yet when the event is yielded.
func TestOneAtATime(t *testing.T) {
	p := "a" + doType + "b" + doEOR + willEOR + doBin + "c" + willBin + "d" + eor + "\xff\xfd\x03" + "e" + eor + dontType + "f\xff\xff\xff"
	steps := []struct {
		event link.Event
		said  string
		mode  int
	}{
		{text("a"), "", 0},
		{text("b"), "\xff\xfb\x18", 0},
		{text("c"), "\xff\xfb\x19\xff\xfd\x19\xff\xfb\x00", 0},
		{screen("d"), "\xff\xfd\x00", 1},
		{screen("e"), "\xff\xfc\x03", 1},
		{text("f\xff"), "\xff\xfc\x18", 0},
	}
	l := newLink(t, true)
	count := 0
	for e := range l.Take([]byte(p)) {
		if !same(e, steps[count].event) {
			t.Errorf("event %d: %v", count, e)
		}
		checkOut(t, l, steps[count].said)
		check(t, l, steps[count].mode, idle, false)
		count++
	}
	if count != len(steps) || !l.Waiting() {
		t.Error(count, l.Waiting())
	}
}

// P11.1: if the consumer stops, nothing more is yielded, and no element has begun.
func TestConsumerStops(t *testing.T) {
	all := take(newLink(t, true), stream())
	for stop := range all {
		l := newLink(t, true)
		var events []link.Event
		for e := range l.Take([]byte(stream())) {
			events = append(events, e)
			if len(events) == stop+1 {
				break
			}
		}
		if !slices.EqualFunc(events, all[:stop+1], same) || l.Waiting() {
			t.Errorf("stopped after %v, waiting %v", events, l.Waiting())
		}
	}
}

// P11.1: if the consumer stops, the rest is lost: the link goes on with what comes next.
func TestRestIsLost(t *testing.T) {
	for _, c := range []struct{ before, p, after string }{
		{"", "a\xff\xfd", "b"}, {"", "a" + toBasic + "x", "b"}, {"", "a\xff", "\xff\xffb"}, {"", "a" + sendDev[:4], "b"},
		{toBasic, "a" + eor + "lost", "b" + eor}, {toBasic, "a" + eor + "lost" + eor, "b" + eor}, {toBasic, "a" + eor + wontBin, "b" + eor}, {toBasic, "a" + eor + "\xff", "b" + eor},
		{toExt, "\x00\x00\x00\x00\x00a" + eor + sendDev, "\x00\x00\x00\x00\x00b" + eor},
	} {
		l := reach(t, c.before)
		mode, state := l.Mode(), l.End().State()
		var got []link.Event
		for e := range l.Take([]byte(c.p)) {
			got = append(got, e)
			break
		}
		check(t, l, mode, state, false)
		checkOut(t, l, "")
		got = append(got, take(l, c.after)...)
		if len(got) != 2 || string(got[0].Data) != "a" || !strings.HasSuffix(string(got[1].Data), "b") || len(got[1].Data) > 2 {
			t.Errorf("%x, stopped, and %x: %v", c.p, c.after, got)
		}
	}
}

// P11.1: bytes are taken when the events are asked for, each time that they are.
func TestTakenWhenAsked(t *testing.T) {
	l := newLink(t, true)
	events := l.Take([]byte(toBasic + "a"))
	check(t, l, 0, idle, false)
	checkOut(t, l, "")
	for e := range events {
		t.Error(e)
	}
	check(t, l, 1, idle, true)
	if got := take(l, eor); len(got) != 1 || !same(got[0], screen("a")) {
		t.Error(got)
	}
	events = l.Take([]byte("b" + eor))
	for range 2 {
		count := 0
		for e := range events {
			if !same(e, screen("b")) {
				t.Error(e)
			}
			count++
		}
		if count != 1 {
			t.Error(count)
		}
	}
}

// P11.1: no bytes have no effect, wherever the stream stands.
func TestNoBytes(t *testing.T) {
	for _, before := range []string{"", "\xff", sendDev[:4], toBasic, toBasic + "a", toExt, toExt + "a\xff"} {
		l := reach(t, before)
		mode, state, waiting := l.Mode(), l.End().State(), l.Waiting()
		for _, p := range [][]byte{nil, {}} {
			for e := range l.Take(p) {
				t.Errorf("%x: %v", before, e)
			}
		}
		check(t, l, mode, state, waiting)
		checkOut(t, l, "")
	}
}

// P11.1: a consumer may use the link between two events.
func TestUseBetweenEvents(t *testing.T) {
	l := reach(t, toExt)
	var data []string
	for e := range l.Take([]byte("\x00\x00\x02\x00\x07a" + eor + "\x00\x00\x02\x00\x08b" + eor)) {
		data = append(data, string(e.Data))
		if !l.Respond(e, api.OK) || l.Send(e.Data) != api.OK {
			t.Error("Respond or Send")
		}
		checkTake(t, l, "\x05\x00\x00\x00\x00n"+eor, headed(link.Text, header.Header{Type: 5}, "n"))
	}
	if strings.Join(data, "") != "ab" {
		t.Error(data)
	}
	checkOut(t, l, "\x02\x00\x00\x00\x07\x00"+eor+numbered(0, "a")+"\x02\x00\x00\x00\x08\x00"+eor+numbered(1, "b"))
}

// overwrite fills a slice and its spare capacity.
func overwrite(p []byte) {
	p = p[:cap(p)]
	for i := range p {
		p[i] = 0x99
	}
}

// The rule of memory: arguments are neither kept nor changed.
func TestArguments(t *testing.T) {
	functions := []byte{0, 2, 7, 7}
	l, err := link.New(link.Config{Type: "IBM-3279", Device: "LU7", Functions: functions[:2], Extended: true})
	if err != api.OK || string(functions) != "\x00\x02\x07\x07" {
		t.Fatal(err, functions)
	}
	overwrite(functions)
	checkTake(t, l, toFuncs)
	checkOut(t, l, willExt+askDev+askFuncs)
	p := []byte("a\xff\xffb" + funcsIs + "\x00\x00\x00\x00\x00c" + eor + "spare")
	before := string(p)
	events := l.Take(p[: len(p)-5 : len(p)])
	overwrite(p)
	var got []link.Event
	for e := range events {
		got = append(got, e)
	}
	if want := []link.Event{text("a\xffb"), headed(link.Screen, header.Header{}, "c")}; !slices.EqualFunc(got, want, same) {
		t.Errorf("%x: %v", before, got)
	}
	sent := []byte("x\xffyspare")
	l.Send(sent[:3])
	l.Say(sent[:3])
	if string(sent) != "x\xffyspare" {
		t.Errorf("%x", sent)
	}
	overwrite(sent)
	checkOut(t, l, numbered(0, "x\xffy")+"x\xff\xffy")
}

// The rule of memory: results are new, with their spare capacity.
func TestResults(t *testing.T) {
	for _, before := range []string{"", toBasic, toExt} {
		events, out, _ := run(t, before+stream())
		l := newLink(t, true)
		var got []link.Event
		var sent []byte
		for _, p := range bytewise(before + stream()) {
			for e := range l.Take([]byte(p)) {
				got = append(got, link.Event{Kind: e.Kind, Data: bytes.Clone(e.Data), Header: e.Header, Headed: e.Headed})
				if e.Kind != link.Text {
					l.Send([]byte{byte(e.Kind)})
				}
				l.Respond(e, api.ErrCommand)
				overwrite(e.Data)
			}
			o := l.Out()
			sent = append(sent, o...)
			overwrite(o)
		}
		if !slices.EqualFunc(merged(got), events, same) || string(sent) != out {
			t.Errorf("%x: the results hang on earlier ones", before)
		}
	}
	l := reach(t, toBasic)
	var kept []link.Event
	for e := range l.Take([]byte("ab" + eor + "cd" + eor + "ef" + eor)) {
		for _, old := range kept {
			overwrite(old.Data[len(old.Data):])
		}
		kept = append(kept, e)
	}
	if !slices.EqualFunc(kept, []link.Event{screen("ab"), screen("cd"), screen("ef")}, same) {
		t.Error(kept)
	}
}
