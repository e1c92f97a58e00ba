package term_test

import (
	"slices"
	"testing"

	"vitrine/api"
	"vitrine/keys"
	"vitrine/term"
)

// P23.2: a copy is equal, and its counters are 0.
func TestCopy(t *testing.T) {
	for model := range sizes {
		for _, number := range pages {
			x := newTerm(t, model, number)
			hostSends(t, x, form, api.OK)
			hostSends(t, x, "\xf3"+modeField(1), api.OK)
			press(t, x, keys.Key{Kind: keys.Insert}, "", api.OK)
			types(t, x, "A\n", 1, api.ErrSign)
			hostSends(t, x, "\xf1\x04\x11", api.ErrShort)
			hostSends(t, x, "\xf1\x04", api.OK)
			hostSends(t, x, "\xf6", api.OK, "\x60\x40\xc4\x11\x40\xc1\xc1\xc2\xc1")
			before, counted := x.State(), counts(x)
			y := x.Copy()
			checkState(t, "the copy", y, before)
			checkScreen(t, "the copy", y, x.Screen())
			if !y.Same(x) || !x.Same(y) || y.Page().Number() != number {
				t.Errorf("the copy of %+v is %+v", before, y.State())
			}
			checkCounts(t, "the copy", y, 0, 0, 0, 0, 0, 0)
			if l := y.Tally().Names(); !slices.Equal(l, names) {
				t.Errorf("the copy's counters are %q", l)
			}
			if counts(x) != counted || counted != [6]uint64{1, 3, 1, 5, 1, 1} {
				t.Errorf("the counters were %v, and are %v", counted, counts(x))
			}
		}
	}
}

// changes are what can be done to one of two copies of the busy terminal.
func changes() map[string]func(x *term.Term) {
	host := func(record string) func(x *term.Term) {
		return func(x *term.Term) { x.Host([]byte(record)) }
	}
	restored := func(k keys.Key) func(x *term.Term) {
		return func(x *term.Term) {
			x.Host([]byte("\xf1\x02"))
			x.Key(k)
		}
	}
	return map[string]func(x *term.Term){
		"a character":     host("\xf1\x00\xc5"),
		"another size":    host("\xf5\xc3\xc5"),
		"the cursor":      host("\xf1\x00\x11\x40\xc9\x13"),
		"erased":          host("\x6f"),
		"restored":        host("\xf1\x02"),
		"an alarm":        host("\xf1\x04"),
		"the reply mode":  host("\xf1\x40"),
		"another mode":    host("\xf3" + modeField(1)),
		"cleared":         host("\xf3" + largeField),
		"a typed one":     restored(keys.Key{Kind: keys.Char, Sign: 'A'}),
		"a deleted one":   restored(keys.Key{Kind: keys.Delete}),
		"the insert mode": restored(keys.Key{Kind: keys.Insert}),
		"an error":        restored(keys.Key{Kind: keys.Select}),
		"an AID":          restored(keys.Key{Kind: keys.PA, N: 1}),
		"the key Clear":   restored(keys.Key{Kind: keys.Clear}),
	}
}

// P23.2: neither of two copies touches the other, nor its counters.
func TestCopiesApart(t *testing.T) {
	for what, change := range changes() {
		x := busy(t, 5)
		y := x.Copy()
		change(y)
		checkBusy(t, what+" in the copy", x)
		checkCounts(t, what+" in the copy", x, 0, 0, 0, 0, 0, 0)
		if y.Tally().Get("records") != 1 {
			t.Errorf("%s: the copy has %v", what, counts(y))
		}

		x = busy(t, 5)
		y = x.Copy()
		change(x)
		checkBusy(t, what+" in the first", y)
		checkCounts(t, what+" in the first", y, 0, 0, 0, 0, 0, 0)

		z := y.Copy()
		change(z)
		if !z.Same(x) || !x.Same(z) {
			t.Errorf("%s: a copy is %+v, want %+v", what, z.State(), x.State())
		}
		checkBusy(t, what+" in the copy of a copy", y)
	}
}

// P23.2: the keyboard of a copy writes to the copy's screen.
func TestCopyHasKeyboard(t *testing.T) {
	x := newTerm(t, 2, 37)
	hostSends(t, x, "\xf5\xc3\x1d\x40\x13", api.OK)
	y := x.Copy()
	types(t, y, "AB", 2, api.OK)
	types(t, x, "C", 1, api.OK)
	press(t, y, keys.Key{Kind: keys.Enter}, "\x7d\x40\xc3\x11\x40\xc1\xc1\xc2", api.OK)
	press(t, x, keys.Key{Kind: keys.Enter}, "\x7d\x40\xc2\x11\x40\xc1\xc3", api.OK)
	hostSends(t, y, "\x6f", api.OK)
	hostSends(t, x, "\xf6", api.OK, "\x7d\x40\xc2\x11\x40\xc1\xc3")
}

// expectSame asks both ways.
func expectSame(t *testing.T, what string, x, y *term.Term, want bool) {
	t.Helper()
	if x.Same(y) != want || y.Same(x) != want {
		t.Errorf("%s: Same is %t and %t, want %t", what, x.Same(y), y.Same(x), want)
	}
}

// P23.2: terminals that are equal; the counters do not matter.
func TestSame(t *testing.T) {
	x, y := newTerm(t, 5, 37), newTerm(t, 5, 37)
	expectSame(t, "new ones", x, y, true)
	expectSame(t, "one", x, x, true)
	x.Host([]byte{0x99})
	x.Key(keys.Key{})
	expectSame(t, "other counters", x, y, true)
	x.Tally().Add("alarms", 7)
	expectSame(t, "more counters", x, y, true)
	for what, change := range changes() {
		x, y := busy(t, 5), busy(t, 5)
		expectSame(t, what+" ahead", x, y, true)
		change(x)
		expectSame(t, what, x, y, what == "an alarm")
		change(y)
		expectSame(t, what+" in both", x, y, true)
	}
}

// P23.2: terminals that differ in one thing alone.
func TestNotSame(t *testing.T) {
	records := func(l ...string) func(x *term.Term) {
		return func(x *term.Term) {
			for _, record := range l {
				x.Host([]byte(record))
			}
		}
	}
	press := func(k keys.Key) func(x *term.Term) {
		return func(x *term.Term) { x.Key(k) }
	}
	for _, c := range []struct {
		what          string
		first, second func(x *term.Term)
	}{
		{"the size", records("\xf5"), records("\x7e")},
		{"the cursor", records("\xf5"), press(keys.Key{Kind: keys.Right})},
		{"the lock", records("\xf5"), press(keys.Key{Kind: keys.Select})},
		{"the insert mode", records("\xf5"), press(keys.Key{Kind: keys.Insert})},
		{"the AID", press(keys.Key{Kind: keys.PA, N: 1}), press(keys.Key{Kind: keys.PA, N: 2})},
		{"the reply mode", records("\xf3" + modeField(1)), records("\xf3" + modeField(2))},
		{"a code", records("\xf5\x00\xc1"), records("\xf5\x00\xc2")},
		{"the last code", records("\xf5\x00\x11\x5d\x7f\xc1"), records("\xf5\x00\x11\x5d\x7f\xc2")},
		{"a color", records("\xf5\x00\x28\x42\xf1\xc1"), records("\xf5\x00\x28\x42\xf2\xc1")},
		{"a character set", records("\xf5\x00\xc1"), records("\xf5\x00\x08\xc1")},
		{"a flag", records("\xf5\x00\x1d\x40"), records("\xf5\x00\x1d\xc1")},
		{"an attribute", records("\xf5\x00\x00"), records("\xf5\x00\x1d\x40")},
	} {
		for model := range sizes {
			x, y := newTerm(t, model, 500), newTerm(t, model, 500)
			c.first(x)
			c.second(y)
			expectSame(t, c.what, x, y, false)
		}
	}
	for model := range sizes {
		for other := range sizes {
			expectSame(t, "the model", newTerm(t, model, 37), newTerm(t, other, 37), model == other)
		}
	}
	for _, number := range pages {
		for _, other := range pages {
			expectSame(t, "the page", newTerm(t, 2, number), newTerm(t, 2, other), number == other)
		}
	}
}

// overwrite fills a slice and its spare capacity.
func overwrite(p []byte) {
	p = p[:cap(p)]
	for i := range p {
		p[i] = 0x99
	}
}

// spareBytes are what spare leaves in the capacity behind.
const spareBytes = "\xc5\xf1\x40\xc3"

func spare(s string) []byte {
	return append([]byte(s), spareBytes...)[:len(s)]
}

func untouched(p []byte, s string) bool {
	return string(p) == s && string(p[:cap(p)][:len(s)+len(spareBytes)]) == s+spareBytes
}

// The rule of memory: a record is not changed, and may be overwritten after the call.
func TestRecordsStay(t *testing.T) {
	for _, record := range []string{
		"", "\xf1\x40\xc1\xc2", form, "\x7e\x40\x29\x02\xc0\x40\x42\xf2\x08\xc5\x3c\x40\xc9\xd1", "\xf6", "\x99", "\xf1\x40\xc1\x11",
		"\xf3" + outbound("\xf1\xc3\xc1\xc2") + queryField + "\x00\x08\x01\xff\x03\x00\x88\x81", "\xf3" + modeField(2) + "\x00\x00\x40\x00\xf5\xc3\xd1",
	} {
		x, y := busy(t, 2), busy(t, 2)
		p := spare(record)
		x.Host(p)
		if !untouched(p, record) {
			t.Errorf("%x has become %x", record, p[:cap(p)])
		}
		overwrite(p)
		y.Host([]byte(record))
		if !x.Same(y) {
			t.Errorf("after %x is overwritten the terminal is another one", record)
		}
	}
}

// The rule of memory: what is sent is new, and no two data share anything.
func TestSentSharesNothing(t *testing.T) {
	record := "\xf3" + queryField + readField(0xf2) + readField(0xf6) + queryField + "\x00\x07\x01\xff\x03\x00\x80" + readField(0x6e)
	x := busy(t, 2)
	want, _ := x.Host([]byte(record))
	again, _ := x.Host([]byte(record))
	for i := range again {
		overwrite(again[i])
		for j := range again {
			if j > i && string(again[j]) != string(want[j]) {
				t.Errorf("overwriting the data %d changes the data %d", i, j)
			}
		}
	}
	clear(again[:cap(again)])
	third, e := x.Host([]byte(record))
	if e != api.OK || !slices.EqualFunc(third, want, slices.Equal[[]byte]) || len(want) != 6 {
		t.Errorf("after all data are overwritten %x is sent, want %x", third, want)
	}
	checkBusy(t, "data are overwritten", x)

	hostSends(t, x, "\xf1\x02", api.OK)
	p, _ := x.Key(keys.Key{Kind: keys.Enter})
	sent := string(p)
	y := x.Copy()
	overwrite(p)
	hostSends(t, x, "\xf6", api.OK, sent)
	if !x.Same(y) {
		t.Error("overwriting what a key has sent changes the terminal")
	}
}
