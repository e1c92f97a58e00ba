package link_test

import (
	"slices"
	"strings"
	"testing"

	"vitrine/api"
	"vitrine/header"
	"vitrine/link"
	"vitrine/option"
)

// Examples of the chapter.
func TestExamples(t *testing.T) {
	l := newLink(t, true)
	checkTake(t, l, doExt)
	checkOut(t, l, willExt)
	checkTake(t, l, sendDev)
	checkOut(t, l, askDev)
}

// P11.1: what a host says to reach mode 1 or 2, and the answers.
func TestNegotiation(t *testing.T) {
	l := newLink(t, true)
	checkTake(t, l, toBasic+sendType)
	checkOut(t, l, "\xff\xfb\x18\xff\xfb\x19\xff\xfd\x19\xff\xfb\x00\xff\xfd\x00"+isType)
	check(t, l, 1, idle, false)
	checkTake(t, l, toBasic)
	checkOut(t, l, "")
	check(t, l, 1, idle, false)

	l = newLink(t, true)
	checkTake(t, l, toExt)
	checkOut(t, l, willExt+askDev+askFuncs)
	check(t, l, 2, ready, false)
	// Both offer functions: the end answers by those that it supports.
	checkTake(t, l, "\xff\xfa\x28\x03\x07\x04\x02\xff\xf0")
	checkOut(t, l, "\xff\xfa\x28\x03\x07\x02\xff\xf0")
	check(t, l, 0, askedFunctions, false)
	checkTake(t, l, "\xff\xfa\x28\x03\x07\x02\xff\xf0")
	checkOut(t, l, "\xff\xfa\x28\x03\x04\x02\xff\xf0")
	check(t, l, 2, ready, false)
}

// P11.1: in mode 0 data are text, until the mode is another; EOR and other commands are nothing.
func TestText(t *testing.T) {
	for _, p := range []string{"", doType + doEOR + willEOR + doBin, doExt, doExt + sendDev, toFuncs, toBasic + doExt, toExt + sendDev, toFuncs + badFuncs} {
		l := reach(t, p)
		check(t, l, 0, l.End().State(), false)
		checkTake(t, l, "a\xff\xffb\x00\xef", text("a\xffb\x00\xef"))
		checkTake(t, l, "\xff\xff", text("\xff"))
		checkTake(t, l, "")
		checkTake(t, l, eor+eor)
		checkTake(t, l, "a"+eor, text("a"))
		checkTake(t, l, eor+"\xff\xf1\xff\xf9")
		checkTake(t, l, "\x00\x00\x02\x00\x05"+eor, text("\x00\x00\x02\x00\x05"))
		check(t, l, 0, l.End().State(), false)
		checkOut(t, l, "")
	}
	checkTake(t, newLink(t, true), "a"+toBasic+"b"+eor+wontBin+"c"+eor, text("a"), screen("b"), text("c"))
}

// P11.1: text that directly follows text is one event, within one call.
func TestTextIsOneEvent(t *testing.T) {
	l := newLink(t, true)
	checkTake(t, l, "a\xff\xff\xff\xffb", text("a\xff\xffb"))
	checkTake(t, l, "a", text("a"))
	checkTake(t, l, "b\xff", text("b"))
	checkTake(t, l, "\xffc\xff\xffd\xff", text("\xffc\xffd"))
	checkTake(t, l, "\xff", text("\xff"))
	checkTake(t, l, strings.Repeat("x", 100000), text(strings.Repeat("x", 100000)))
	checkTake(t, l, "a\xff\xf1b", text("a"), text("b"))
	checkTake(t, l, "a\xff\xfd\x03b"+sendType+"c", text("a"), text("b"), text("c"))
	// An option may be ff, which is not data.
	checkTake(t, l, "a\xff\xfd", text("a"))
	checkTake(t, l, "\xff\xff\xffb", text("\xffb"))
}

// P11.1: records in mode 1: data up to EOR, also empty ones; other commands are nothing.
func TestBasicRecords(t *testing.T) {
	l := reach(t, toBasic)
	checkTake(t, l, eor, screen(""))
	checkTake(t, l, "a"+eor+"\xff\xff"+eor+eor+"\x00\x00\x02\x00\x05z"+eor, screen("a"), screen("\xff"), screen(""), screen("\x00\x00\x02\x00\x05z"))
	checkTake(t, l, "a\xff")
	check(t, l, 1, idle, true)
	checkTake(t, l, "\xf1b")
	check(t, l, 1, idle, true)
	checkTake(t, l, "\xff\xff\xff\xf3\xff\xec"+eor, screen("ab\xff"))
	check(t, l, 1, idle, false)
	for verb := range 0xfa {
		if verb == 0xef {
			continue
		}
		checkTake(t, l, "p\xff"+string([]byte{byte(verb)})+"q"+eor, screen("pq"))
	}
	checkOut(t, l, "")
}

// P11.1: records that are too long, in both modes; of their bytes none is reported but a header.
func TestLongRecords(t *testing.T) {
	l := reach(t, toBasic)
	most := strings.Repeat("m", api.MaxRecord)
	long := link.Event{Kind: link.Long}
	checkTake(t, l, most+eor+most+"m"+eor+"a"+eor, screen(most), long, screen("a"))
	checkTake(t, l, "\x00\x00\x02\x00\x05"+most+most+eor, long)
	checkTake(t, l, strings.Repeat("\xff\xff", api.MaxRecord+1)+eor, long)

	l = reach(t, toExt)
	ahead := "\x07\x01\x02\x01\x09"
	h := header.Header{Type: 7, Request: 1, Response: 2, Seq: 0x109}
	checkTake(t, l, ahead+most[5:]+eor, headed(link.Other, h, most[5:]))
	checkTake(t, l, ahead+most[4:]+eor+ahead+most+most+eor, headed(link.Long, h, ""), headed(link.Long, h, ""))
	checkTake(t, l, most+eor, link.Event{Kind: link.Bad, Data: []byte(most)})
	checkTake(t, l, most+"m"+eor+ahead+eor, long, headed(link.Other, h, ""))
	checkTake(t, l, "\x02\x00\x02\x00\x00"+most+eor, long)
	for kind := range 9 {
		p := string([]byte{byte(kind), 0, 1, 0, 3})
		checkTake(t, l, p+most+eor, headed(link.Long, header.Header{Type: byte(kind), Response: 1, Seq: 3}, ""))
	}
	if !l.Respond(headed(link.Long, h, ""), api.ErrLong) {
		t.Error("a long record is not answered")
	}
	checkOut(t, l, "\x02\x00\x01\x01\x09\x03"+eor)
}

// kindOf is the kind of an event, by the type of its header.
func kindOf(headerType int) int {
	return []int{link.Screen, link.Other, link.Answer, link.Other, link.Other, link.Text, link.Other, link.Other, link.Other}[headerType]
}

// P11.1: records of every type and response in mode 2, valid or not.
func TestExtendedRecords(t *testing.T) {
	l := reach(t, toExt)
	for kind := range 256 {
		for _, response := range []byte{0, 1, 2, 3, 0xff} {
			ahead := strings.ReplaceAll(string([]byte{byte(kind), 0xff, response, 0x7f, 0xff}), "\xff", "\xff\xff")
			h := header.Header{Type: byte(kind), Request: 0xff, Response: response, Seq: 0x7fff}
			if kind > 8 || response > 2 || kind == 2 && response > 1 {
				checkTake(t, l, ahead+"ab"+eor, link.Event{Kind: link.Bad, Data: []byte{byte(kind), 0xff, response, 0x7f, 0xff, 'a', 'b'}})
				continue
			}
			checkTake(t, l, ahead+"a\xff\xff"+eor+ahead+eor, headed(kindOf(kind), h, "a\xff"), headed(kindOf(kind), h, ""))
		}
	}
	for n := range 5 {
		p := "\x00\x00\x02\x00"[:n]
		checkTake(t, l, p+eor, link.Event{Kind: link.Bad, Data: []byte(p)})
	}
	check(t, l, 2, ready, false)
	checkOut(t, l, "")
}

// P11.1: texts with a header are events of their own, even if one directly follows the other.
func TestHeadedTexts(t *testing.T) {
	l := reach(t, toExt)
	one := "\x05\x00\x02\x00\x01a" + eor
	h := header.Header{Type: 5, Response: 2, Seq: 1}
	checkTake(t, l, one+one, headed(link.Text, h, "a"), headed(link.Text, h, "a"))
}

// P11.1: a subnegotiation that is long has no effect; of as many bytes as are permitted it has one.
func TestLongSubnegotiations(t *testing.T) {
	list := ""
	for function := range 255 {
		list += string([]byte{byte(function)})
	}
	l := reach(t, toFuncs)
	checkTake(t, l, "\xff\xfa\x28\x03\x04"+list+"\xff\xf0")
	check(t, l, 0, askedFunctions, false)
	checkTake(t, l, "\xff\xfa\x28\x03\x07"+list+"\xff\xf0")
	check(t, l, 0, askedFunctions, false)
	checkOut(t, l, "")
	checkTake(t, l, "\xff\xfa\x28\x03\x07"+list[:254]+"\xff\xf0")
	checkOut(t, l, askFuncs)
	checkTake(t, l, "\xff\xfa\x28\x03\x04"+list[:254]+"\xff\xf0")
	check(t, l, 0, refused, false)
	checkOut(t, l, wontExt)
	l = reach(t, doType)
	checkTake(t, l, "\xff\xfa\x18"+strings.Repeat("\x01", 300)+"\xff\xf0")
	checkOut(t, l, "")
}

// P11.1: a subnegotiation that is broken has no effect; what breaks it has.
func TestBrokenSubnegotiations(t *testing.T) {
	const half = "\xff\xfa\x18\x01"
	l := reach(t, doType)
	checkTake(t, l, half+"\xff\xf1a", text("a"))
	checkOut(t, l, "")
	checkTake(t, l, half+doBin)
	checkOut(t, l, "\xff\xfb\x00")
	checkTake(t, l, half+sendType)
	checkOut(t, l, isType)
	checkTake(t, l, half+eor)
	checkOut(t, l, "")
	l = reach(t, toBasic)
	checkTake(t, l, "a"+half+eor, screen("a"))
	checkTake(t, l, "a"+half+wontEOR+"b", text("b"))
	checkOut(t, l, "\xff\xfe\x19")
	l = reach(t, toExt)
	checkTake(t, l, sendDev[:5]+"\xff\xf1")
	check(t, l, 2, ready, false)
	checkTake(t, l, sendDev[:5])
	check(t, l, 2, ready, true)
	checkTake(t, l, "\xff\xf0")
	check(t, l, 0, askedDevice, false)
}

// P11.1: a subnegotiation of an option that is not agreed on, on our side, has no effect; nor has one that the end does not understand.
func TestSubnegotiationsOfOtherOptions(t *testing.T) {
	l := newLink(t, true)
	checkTake(t, l, sendType+sendDev)
	checkOut(t, l, "")
	check(t, l, 0, idle, false)
	checkTake(t, l, "\xff\xfb\x18\xff\xfb\x28"+sendType+sendDev)
	checkOut(t, l, "\xff\xfe\x18\xff\xfe\x28")
	l = reach(t, doType+doExt)
	checkTake(t, l, dontType+sendType)
	checkOut(t, l, "\xff\xfc\x18")
	checkTake(t, l, sendDev+dontExt+sendDev+deviceIs)
	checkOut(t, l, askDev+wontExt)
	l = reach(t, toBasic+doExt)
	for code := range 256 {
		if code == 0xff || code == 0x18 || code == 0x28 {
			continue
		}
		for _, p := range []string{"", "\x01", "\x08\x02"} {
			checkTake(t, l, "\xff\xfa"+string([]byte{byte(code)})+p+"\xff\xf0")
		}
	}
	for _, p := range []string{"", "\x00", "\x01\x01", "\x08\x02\x00"} {
		checkTake(t, l, "\xff\xfa\x18"+p+"\xff\xf0\xff\xfa\x28"+p+"\xff\xf0")
	}
	// Not in this state.
	checkTake(t, l, deviceIs+rejectDev+funcsIs)
	check(t, l, 0, idle, false)
	checkOut(t, l, "")
	checkTake(t, l, sendType)
	checkOut(t, l, isType)
}

// P11.1: mode 1 is left, and the incomplete record discarded, by each option without which it is not.
func TestLeavingBasicMode(t *testing.T) {
	for _, c := range []struct{ off, on, said string }{
		{dontType, doType, "\xff\xfc\x18"}, {dontEOR, doEOR, "\xff\xfc\x19"}, {wontEOR, willEOR, "\xff\xfe\x19"},
		{dontBin, doBin, "\xff\xfc\x00"}, {wontBin, willBin, "\xff\xfe\x00"}, {doExt, dontExt, willExt},
	} {
		for _, p := range []string{"a", strings.Repeat("a", api.MaxRecord+1)} {
			l := reach(t, toBasic)
			checkTake(t, l, p)
			check(t, l, 1, idle, true)
			checkTake(t, l, c.off)
			checkOut(t, l, c.said)
			check(t, l, 0, idle, false)
			checkTake(t, l, eor+"b", text("b"))
			checkTake(t, l, c.on)
			check(t, l, 1, idle, false)
			checkTake(t, l, "c"+c.off+c.on+"d"+eor+eor, screen("d"), screen(""))
			// What is off is not turned off again.
			checkTake(t, l, "e"+c.on+"f"+eor, screen("ef"))
		}
	}
}

// P11.1: an incomplete record is kept while the mode is the same, whatever is heard.
func TestRecordKept(t *testing.T) {
	l := reach(t, toBasic)
	heard := []string{doType, doBin, willEOR, "\xff\xfd\x03", "\xff\xfb\x28", "\xff\xfc\x28", dontExt, sendType, sendDev, "\xff\xfa\x18\x01\xff\xf1", "\xff\xf1"}
	checkTake(t, l, "a"+strings.Join(heard, "b")+"c"+eor, screen("a"+strings.Repeat("b", len(heard)-1)+"c"))
	l = reach(t, toExt)
	heard = []string{doExt, "\xff\xfd\x03", toBasic, wontBin, dontType, dontEOR, "\xff\xfa\x28\x03\x07\x00\xff\xf0", funcsIs, deviceIs, rejectDev, "\xff\xfa\x28\x00\xff\xf0", "\xff\xf1"}
	checkTake(t, l, "\x00\x00\x00\x00\x00"+strings.Join(heard, "b")+eor, headed(link.Screen, header.Header{}, strings.Repeat("b", len(heard)-1)))
	check(t, l, 2, ready, false)
	if l.End().Has(2) || !l.End().Has(0) {
		t.Error(l.End().Functions())
	}
}

// P11.1: mode 2 is left, and the incomplete record discarded; for mode 0, or for mode 1 at once.
func TestLeavingExtendedMode(t *testing.T) {
	const ahead = "\x00\x00\x00\x00\x00"
	for _, c := range []struct {
		before, off, said string
		mode, state       int
	}{
		{toExt, sendDev, askDev, 0, askedDevice},
		{toExt, "\xff\xfa\x28\x03\x07\x02\x04\xff\xf0", "\xff\xfa\x28\x03\x07\x02\xff\xf0", 0, askedFunctions},
		{toExt, dontExt, wontExt, 0, idle},
		{toExt + toBasic, sendDev, askDev, 0, askedDevice},
		{toExt + toBasic, dontExt, wontExt, 1, idle},
		{toBasic + toExt, dontExt, wontExt, 1, idle},
	} {
		for _, p := range []string{ahead, "a", strings.Repeat("a", api.MaxRecord+1)} {
			l := reach(t, c.before)
			checkTake(t, l, p)
			check(t, l, 2, ready, true)
			checkTake(t, l, c.off)
			checkOut(t, l, c.said)
			check(t, l, c.mode, c.state, false)
			if c.mode == 1 {
				checkTake(t, l, "b"+eor, screen("b"))
				continue
			}
			checkTake(t, l, eor+"b", text("b"))
		}
	}
}

// P11.1: an end that is refused turns TN3270E off, once; then the connection goes on in another mode.
func TestRefused(t *testing.T) {
	for _, p := range []string{doExt + sendDev + rejectDev, toFuncs + badFuncs, toExt + sendDev + rejectDev, toExt + sendDev + deviceIs + badFuncs} {
		l := newLink(t, true)
		checkTake(t, l, doType+doEOR+willEOR+doBin+p[:len(p)-2])
		l.Out()
		checkTake(t, l, p[len(p)-2:])
		checkOut(t, l, wontExt)
		check(t, l, 0, refused, false)
		// TERMINAL-TYPE is answered, TN3270E is not, and nothing is turned off again.
		checkTake(t, l, sendType+sendDev+deviceIs+sendType)
		checkOut(t, l, isType+isType)
		check(t, l, 0, refused, false)
		if l.Options().State(option.Us, 0x28) != 2 {
			t.Error(l.Options().State(option.Us, 0x28))
		}
		checkTake(t, l, "a", text("a"))
		checkTake(t, l, willBin+"b"+eor, screen("b"))
		checkOut(t, l, "\xff\xfd\x00")
		check(t, l, 1, idle, false)
		checkTake(t, l, dontExt)
		checkOut(t, l, "")
		// It may be agreed on again.
		checkTake(t, l, "c"+toExt)
		checkOut(t, l, willExt+askDev+askFuncs)
		check(t, l, 2, ready, false)
	}
	l := reach(t, toBasic+toFuncs)
	checkTake(t, l, badFuncs+"a"+eor, screen("a"))
	check(t, l, 1, refused, false)
	checkOut(t, l, wontExt)
}

// P11.1: after any option the end is reset, unless TN3270E is agreed on.
func TestReset(t *testing.T) {
	for _, heard := range []string{dontExt, doExt, doBin, "\xff\xfd\x03", "\xff\xfc\x00", "\xff\xfb\x28"} {
		l := reach(t, toFuncs+badFuncs)
		check(t, l, 0, refused, false)
		checkTake(t, l, heard)
		check(t, l, 0, idle, false)
		l = reach(t, toExt)
		checkTake(t, l, heard)
		if heard == dontExt {
			check(t, l, 0, idle, false)
			if l.End().Device() != "" {
				t.Error(l.End().Device())
			}
			continue
		}
		check(t, l, 2, ready, false)
	}
	l := reach(t, doExt+sendDev)
	checkTake(t, l, dontExt+doExt+deviceIs)
	check(t, l, 0, idle, false)
	checkOut(t, l, wontExt+willExt)
}

// P11.2: Waiting, at every place of elements and of records.
func TestWaiting(t *testing.T) {
	for _, before := range []string{"", toBasic, toExt} {
		for _, p := range []string{doBin, "\xff\xf1", "\xff\xfd\x03", sendType, "\xff\xfa\x28\xff\xff\xff\xf0", "\xff\xfa\x18\x01\xff\xf1"} {
			l := reach(t, before)
			for i := range len(p) {
				if l.Waiting() != (i > 0) {
					t.Errorf("%x: Waiting is %v", p[:i], l.Waiting())
				}
				take(l, p[i:i+1])
			}
			if l.Waiting() {
				t.Errorf("%x: Waiting", p)
			}
		}
		l := reach(t, before)
		take(l, "a")
		if l.Waiting() != (before != "") {
			t.Errorf("%x: Waiting is %v with data", before, l.Waiting())
		}
		take(l, eor)
		if l.Waiting() {
			t.Errorf("%x: Waiting after EOR", before)
		}
	}
}

// P2: links do not hang on each other.
func TestTwoLinks(t *testing.T) {
	a, b := newLink(t, true), newLink(t, false)
	take(a, toExt+"a")
	check(t, b, 0, idle, false)
	take(b, toBasic)
	a.Send([]byte("x"))
	b.Say([]byte("y"))
	checkOut(t, a, willExt+askDev+askFuncs+numbered(0, "x"))
	checkOut(t, b, "\xff\xfb\x18\xff\xfb\x19\xff\xfd\x19\xff\xfb\x00\xff\xfd\x00y")
	checkTake(t, b, "b"+eor, screen("b"))
	check(t, a, 2, ready, true)
}

// Functions that are not supported are never agreed on, and those that are supported are in the configuration's order.
func TestConfiguration(t *testing.T) {
	for _, functions := range [][]byte{nil, {}, {2}, {0, 1, 2, 3, 4}} {
		l, err := link.New(link.Config{Type: "T", Functions: functions, Extended: true})
		if err != api.OK {
			t.Fatal(err)
		}
		checkTake(t, l, doExt+sendDev+deviceIs)
		checkOut(t, l, willExt+"\xff\xfa\x28\x02\x07T\xff\xf0\xff\xfa\x28\x03\x07"+string(functions)+"\xff\xf0")
		checkTake(t, l, funcsIs)
		if slices.Contains(functions, 2) {
			check(t, l, 2, ready, false)
			continue
		}
		check(t, l, 0, refused, false)
	}
}
