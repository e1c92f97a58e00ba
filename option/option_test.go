package option_test

import (
	"math"
	"slices"
	"testing"

	"vitrine/api"
	"vitrine/option"
)

const (
	will = 0xfb
	wont = 0xfc
	do   = 0xfd
	dont = 0xfe
)

// onOf and offOf have, by side, the verbs that we send; heardOn and heardOff those that the other end sends.
var (
	onOf     = [2]byte{will, do}
	offOf    = [2]byte{wont, dont}
	heardOn  = [2]byte{do, will}
	heardOff = [2]byte{dont, wont}
)

// agreeing returns a machine that agrees to one option on one side, or to nothing.
func agreeing(side int, o byte, agrees bool) *option.Machine {
	if !agrees {
		return option.New(nil, nil)
	}
	if side == option.Us {
		return option.New([]byte{o}, nil)
	}
	return option.New(nil, []byte{o})
}

// said returns no message for the verb 0, and one for any other.
func said(verb, o byte) []option.Message {
	if verb == 0 {
		return nil
	}
	return []option.Message{{Verb: verb, Option: o}}
}

func hear(t *testing.T, m *option.Machine, verb, o byte, want []option.Message) {
	t.Helper()
	if l, e := m.Hear(verb, o); e != api.OK || !slices.Equal(l, want) {
		t.Errorf("Hear(%x, %d): %x, %d; want %x", verb, o, l, e, want)
	}
}

func ask(t *testing.T, m *option.Machine, side int, o byte, on bool, want []option.Message) {
	t.Helper()
	if l, e := m.Ask(side, o, on); e != api.OK || !slices.Equal(l, want) {
		t.Errorf("Ask(%d, %d, %v): %x, %d; want %x", side, o, on, l, e, want)
	}
}

// bring brings an option of a new machine into a state, without its agreement.
func bring(t *testing.T, m *option.Machine, side int, o byte, state int) {
	t.Helper()
	if state == 0 {
		return
	}
	ask(t, m, side, o, true, said(onOf[side], o))
	if state == 4 {
		return
	}
	if state == 5 {
		ask(t, m, side, o, false, nil)
		return
	}
	hear(t, m, heardOn[side], o, nil)
	if state >= 2 {
		ask(t, m, side, o, false, said(offOf[side], o))
	}
	if state == 3 {
		ask(t, m, side, o, true, nil)
	}
}

// check holds the state of one option against what it should be, and all others against no.
func check(t *testing.T, m *option.Machine, side int, o byte, state int) {
	t.Helper()
	if got := m.State(side, o); got != state {
		t.Errorf("State(%d, %d) is %d, want %d", side, o, got, state)
	}
	for s := range 2 {
		for other := range 256 {
			if (s != side || byte(other) != o) && (m.State(s, byte(other)) != 0 || m.On(s, byte(other))) {
				t.Errorf("State(%d, %d) is %d beside option %d of side %d", s, other, m.State(s, byte(other)), o, side)
			}
		}
	}
	if m.On(side, o) != (state == 1) {
		t.Errorf("On(%d, %d) is %v in state %d", side, o, m.On(side, o), state)
	}
	if m.Quiet() != (state <= 1) {
		t.Errorf("Quiet is %v in state %d", m.Quiet(), state)
	}
	var agreed []byte
	if state == 1 {
		agreed = []byte{o}
	}
	if got := slices.Collect(m.Agreed(side)); !slices.Equal(got, agreed) {
		t.Errorf("Agreed(%d) is %d in state %d", side, got, state)
	}
	if got := slices.Collect(m.Agreed(1 - side)); len(got) != 0 {
		t.Errorf("Agreed(%d) is %d", 1-side, got)
	}
}

const (
	silent = iota
	on
	off
)

// outcome is a state and what is sent.
type outcome struct{ next, sent int }

func (x outcome) messages(side int, o byte) []option.Message {
	switch x.sent {
	case on:
		return said(onOf[side], o)
	case off:
		return said(offOf[side], o)
	}
	return nil
}

var someOptions = []byte{0, 1, 24, 25, 40, 127, 128, 254, 255}

// P8.1, P8.2: every message in every state of both sides, with and without our agreement.
func TestHear(t *testing.T) {
	heard := map[bool][6]outcome{
		true:  {{0, off}, {1, silent}, {0, silent}, {1, silent}, {1, silent}, {2, off}},
		false: {{0, silent}, {0, off}, {0, silent}, {4, on}, {0, silent}, {0, silent}},
	}
	for isOn, outcomes := range heard {
		for state, want := range outcomes {
			for side := range 2 {
				for _, agrees := range []bool{false, true} {
					for _, o := range someOptions {
						m := agreeing(side, o, agrees)
						bring(t, m, side, o, state)
						check(t, m, side, o, state)
						verb, want := heardOff[side], want
						if isOn {
							verb = heardOn[side]
						}
						if isOn && agrees && state == 0 {
							want = outcome{1, on}
						}
						hear(t, m, verb, o, want.messages(side, o))
						check(t, m, side, o, want.next)
					}
				}
			}
		}
	}
}

// P8.1: every request in every state of both sides; our agreement does not matter to it.
func TestAsk(t *testing.T) {
	refused := outcome{-1, silent}
	asked := map[bool][6]outcome{
		true:  {{4, on}, refused, {3, silent}, refused, refused, {4, silent}},
		false: {refused, {2, off}, refused, {2, silent}, {5, silent}, refused},
	}
	for isOn, outcomes := range asked {
		for state, want := range outcomes {
			for side := range 2 {
				for _, agrees := range []bool{false, true} {
					for _, o := range someOptions {
						m := agreeing(side, o, agrees)
						bring(t, m, side, o, state)
						if want != refused {
							ask(t, m, side, o, isOn, want.messages(side, o))
							check(t, m, side, o, want.next)
							continue
						}
						if l, e := m.Ask(side, o, isOn); e != api.ErrState || len(l) != 0 {
							t.Errorf("Ask(%d, %d, %v) in state %d: %x, %d", side, o, isOn, state, l, e)
						}
						check(t, m, side, o, state)
					}
				}
			}
		}
	}
}

// P8.1: the examples of the document, and where a message for one side must not be taken for the other.
func TestExamples(t *testing.T) {
	m := option.New([]byte{25}, nil)
	hear(t, m, do, 25, said(will, 25))
	hear(t, m, do, 25, nil)
	hear(t, m, do, 1, said(wont, 1))
	hear(t, m, will, 25, said(dont, 25))
	hear(t, m, wont, 25, nil)
	check(t, m, option.Us, 25, 1)
	hear(t, m, dont, 25, said(wont, 25))
	hear(t, m, dont, 25, nil)
	check(t, m, option.Us, 25, 0)
	hear(t, m, do, 25, said(will, 25))
	if option.Us != 0 || option.Him != 1 {
		t.Error(option.Us, option.Him)
	}
}

// P8.1: the lists of New are of one side each; they may have any order, and an option twice.
func TestNew(t *testing.T) {
	us, him := []byte{255, 0, 25, 25, 3}, []byte{24, 0, 255, 24}
	m := option.New(us, him)
	for side, agreed := range [][]byte{us, him} {
		for o := range 256 {
			check := slices.Contains(agreed, byte(o))
			want := said(offOf[side], byte(o))
			if check {
				want = said(onOf[side], byte(o))
			}
			hear(t, m, heardOn[side], byte(o), want)
			if m.On(side, byte(o)) != check {
				t.Errorf("On(%d, %d) is %v", side, o, !check)
			}
		}
	}
	if got := slices.Collect(m.Agreed(option.Us)); !slices.Equal(got, []byte{0, 3, 25, 255}) {
		t.Error(got)
	}
	if got := slices.Collect(m.Agreed(option.Him)); !slices.Equal(got, []byte{0, 24, 255}) {
		t.Error(got)
	}
	if !m.Quiet() {
		t.Error("not quiet")
	}
}

// P8.1: no lists, and empty ones: all states are no, and nothing is agreed to.
func TestNewOfNothing(t *testing.T) {
	for _, m := range []*option.Machine{option.New(nil, nil), option.New([]byte{}, []byte{})} {
		if m == nil {
			t.Fatal("no machine")
		}
		check(t, m, option.Us, 0, 0)
		for o := range 256 {
			hear(t, m, do, byte(o), said(wont, byte(o)))
			hear(t, m, will, byte(o), said(dont, byte(o)))
			hear(t, m, wont, byte(o), nil)
			hear(t, m, dont, byte(o), nil)
		}
		check(t, m, option.Him, 255, 0)
	}
}

// P8.1: a verb that is none changes nothing, in any state.
func TestHearOfNoVerb(t *testing.T) {
	for state := range 6 {
		for side := range 2 {
			m := agreeing(side, 25, true)
			bring(t, m, side, 25, state)
			for verb := range 256 {
				if verb >= will && verb <= dont {
					continue
				}
				if l, e := m.Hear(byte(verb), 25); e != api.ErrArg || len(l) != 0 {
					t.Errorf("Hear(%x, 25): %x, %d", verb, l, e)
				}
			}
			check(t, m, side, 25, state)
		}
	}
}

var noSides = []int{-1, 2, 3, 256, 257, -256, 1 << 32, 1<<32 + 1, math.MinInt, math.MaxInt}

// P8.1: a side that is none.
func TestNoSide(t *testing.T) {
	m := option.New([]byte{25}, []byte{25})
	hear(t, m, do, 25, said(will, 25))
	hear(t, m, will, 25, said(do, 25))
	for _, side := range noSides {
		for _, o := range someOptions {
			for _, isOn := range []bool{true, false} {
				if l, e := m.Ask(side, o, isOn); e != api.ErrArg || len(l) != 0 {
					t.Errorf("Ask(%d, %d, %v): %x, %d", side, o, isOn, l, e)
				}
			}
			if m.State(side, o) != 0 || m.On(side, o) {
				t.Errorf("State(%d, %d) is %d", side, o, m.State(side, o))
			}
		}
		for o := range m.Agreed(side) {
			t.Errorf("Agreed(%d) yields %d", side, o)
		}
	}
	if !m.On(option.Us, 25) || !m.On(option.Him, 25) || !m.Quiet() {
		t.Error("changed")
	}
}

// P8.1, P1: no machine. ErrNone comes ahead of all that is wrong with the arguments.
func TestNoMachine(t *testing.T) {
	var m *option.Machine
	for _, verb := range []byte{will, wont, do, dont, 0, 0xff} {
		if l, e := m.Hear(verb, 25); e != api.ErrNone || len(l) != 0 {
			t.Errorf("Hear(%x, 25): %x, %d", verb, l, e)
		}
	}
	for _, side := range append([]int{0, 1}, noSides...) {
		for _, isOn := range []bool{true, false} {
			if l, e := m.Ask(side, 25, isOn); e != api.ErrNone || len(l) != 0 {
				t.Errorf("Ask(%d, 25, %v): %x, %d", side, isOn, l, e)
			}
		}
		if m.State(side, 25) != 0 || m.On(side, 25) {
			t.Error(side)
		}
		for o := range m.Agreed(side) {
			t.Errorf("Agreed(%d) yields %d", side, o)
		}
	}
	if !m.Quiet() {
		t.Error("not quiet")
	}
}

// P8.1: one option that waits is enough, on either side and wherever it is.
func TestQuiet(t *testing.T) {
	for side := range 2 {
		for o := range 256 {
			m := option.New([]byte{1, 2, 3}, []byte{1, 2, 3})
			hear(t, m, heardOn[1-side], 2, said(onOf[1-side], 2))
			if !m.Quiet() {
				t.Fatal("not quiet")
			}
			ask(t, m, side, byte(o), true, said(onOf[side], byte(o)))
			if m.Quiet() {
				t.Errorf("quiet while option %d of side %d waits", o, side)
			}
			hear(t, m, heardOff[side], byte(o), nil)
			if !m.Quiet() {
				t.Errorf("not quiet after option %d of side %d", o, side)
			}
		}
	}
}

// P8.1: only options whose state is yes, in increasing order, of all 256.
func TestAgreed(t *testing.T) {
	for side := range 2 {
		m := option.New(nil, nil)
		var want []byte
		for o := 255; o >= 0; o-- {
			bring(t, m, side, byte(o), o%6)
			if o%6 == 1 {
				want = append(want, byte(o))
			}
		}
		slices.Reverse(want)
		if got := slices.Collect(m.Agreed(side)); !slices.Equal(got, want) {
			t.Errorf("Agreed(%d): %d", side, got)
		}
		all := option.New(nil, nil)
		for o := range 256 {
			bring(t, all, side, byte(o), 1)
		}
		if got := slices.Collect(all.Agreed(side)); len(got) != 256 || got[0] != 0 || got[255] != 255 || !slices.IsSorted(got) {
			t.Errorf("Agreed(%d): %d", side, got)
		}
	}
}

// The rule of iterators: the same each time, also after a later call, and nothing after a stop.
func TestAgreedAgainAndStopped(t *testing.T) {
	m := option.New([]byte{7, 200, 30}, nil)
	for _, o := range []byte{200, 30, 7} {
		hear(t, m, do, o, said(will, o))
	}
	want := []byte{7, 30, 200}
	agreed := m.Agreed(option.Us)
	for stop := range want {
		var got []byte
		for o := range agreed {
			got = append(got, o)
			if len(got) == stop+1 {
				break
			}
		}
		if !slices.Equal(got, want[:stop+1]) {
			t.Errorf("stopped after %d: %d", stop+1, got)
		}
	}
	var got []byte
	for o := range agreed {
		got = append(got, o)
		hear(t, m, dont, o, said(wont, o))
	}
	if !slices.Equal(got, want) || !slices.Equal(slices.Collect(agreed), want) {
		t.Error(got)
	}
	for o := range m.Agreed(option.Us) {
		t.Error(o)
	}
}

// P8.1: Bytes is IAC and the two bytes, whatever they are.
func TestBytes(t *testing.T) {
	for verb := range 256 {
		for o := range 256 {
			m := option.Message{Verb: byte(verb), Option: byte(o)}
			if got := m.Bytes(); !slices.Equal(got, []byte{0xff, byte(verb), byte(o)}) {
				t.Fatalf("Bytes of %x: %x", m, got)
			}
		}
	}
}

// The rule of memory: lists are not kept and not changed, and results are new.
func TestMemory(t *testing.T) {
	us, him := []byte{25, 1, 9, 9}, []byte{24, 2, 9, 9}
	m := option.New(us[:2], him[:2])
	if !slices.Equal(us, []byte{25, 1, 9, 9}) || !slices.Equal(him, []byte{24, 2, 9, 9}) {
		t.Error(us, him)
	}
	for i := range us {
		us[i], him[i] = 77, 77
	}
	first, _ := m.Hear(do, 25)
	first = first[:cap(first)]
	for i := range first {
		first[i] = option.Message{}
	}
	hear(t, m, will, 24, said(do, 24))
	hear(t, m, do, 1, said(will, 1))
	hear(t, m, do, 77, said(wont, 77))
	hear(t, m, will, 77, said(dont, 77))
	hear(t, m, do, 9, said(wont, 9))
	p := option.Message{Verb: do, Option: 1}.Bytes()
	clear(p[:cap(p)])
	if got := (option.Message{Verb: do, Option: 1}).Bytes(); string(got) != "\xff\xfd\x01" {
		t.Errorf("%x", got)
	}
}

// P2: machines do not hang on each other.
func TestTwoMachines(t *testing.T) {
	a, b := option.New([]byte{25}, nil), option.New(nil, []byte{25})
	hear(t, a, do, 25, said(will, 25))
	hear(t, b, do, 25, said(wont, 25))
	ask(t, b, option.Us, 25, true, said(will, 25))
	check(t, a, option.Us, 25, 1)
	check(t, b, option.Us, 25, 4)
}
