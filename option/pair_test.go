package option_test

import (
	"fmt"
	"math/rand"
	"testing"

	"vitrine/api"
	"vitrine/option"
)

// pair is two machines that hear one another, with the messages that are under way to each.
type pair struct {
	ends  [2]*option.Machine
	under [2][]option.Message
}

// move is something that may happen to a pair: an end asks, or it hears the first message that is under way to it.
type move struct {
	end  int
	hear bool
	side int
	on   bool
}

func (p *pair) ask(end, side int, o byte, on bool) {
	l, _ := p.ends[end].Ask(side, o, on)
	p.under[1-end] = append(p.under[1-end], l...)
}

// hear returns false if nothing is under way.
func (p *pair) hear(t *testing.T, end int) bool {
	t.Helper()
	if len(p.under[end]) == 0 {
		return false
	}
	first := p.under[end][0]
	p.under[end] = p.under[end][1:]
	l, e := p.ends[end].Hear(first.Verb, first.Option)
	if e != api.OK || len(l) > 1 {
		t.Fatalf("Hear(%x, %d): %x, %d", first.Verb, first.Option, l, e)
	}
	p.under[1-end] = append(p.under[1-end], l...)
	return true
}

func (p *pair) do(t *testing.T, m move, o byte) {
	t.Helper()
	if m.hear {
		p.hear(t, m.end)
		return
	}
	p.ask(m.end, m.side, o, m.on)
}

// settle lets the ends hear until nothing is under way; pick says whose turn it is.
func (p *pair) settle(t *testing.T, limit int, pick func(step int) int) {
	t.Helper()
	for step := range limit {
		end := pick(step)
		if !p.hear(t, end) && !p.hear(t, 1-end) {
			return
		}
	}
	t.Fatalf("not quiet after %d messages", limit)
}

// agree checks that both ends are quiet and hold the same of each side.
func (p *pair) agree(t *testing.T, story any) {
	t.Helper()
	for end, m := range p.ends {
		if !m.Quiet() {
			t.Errorf("%v: end %d is not quiet", story, end)
		}
		for o := range 256 {
			if m.State(option.Us, byte(o)) != p.ends[1-end].State(option.Him, byte(o)) {
				t.Errorf("%v: the ends do not agree on option %d of end %d", story, o, end)
			}
		}
	}
}

// key tells apart all that matters to one option.
func (p *pair) key(o byte) string {
	var states [4]int
	for end, m := range p.ends {
		states[2*end], states[2*end+1] = m.State(option.Us, o), m.State(option.Him, o)
	}
	return fmt.Sprint(states, p.under)
}

func newPair(first, second bool) *pair {
	list := map[bool][]byte{true: {25}}
	return &pair{ends: [2]*option.Machine{option.New(list[first], nil), option.New(nil, list[second])}}
}

func replay(t *testing.T, first, second bool, story []move) *pair {
	t.Helper()
	p := newPair(first, second)
	for _, m := range story {
		p.do(t, m, 25)
	}
	return p
}

// The orders in which messages are heard.
func pickFirst(int) int    { return 0 }
func pickSecond(int) int   { return 1 }
func pickInTurn(n int) int { return n % 2 }

// P8.2, P7: all that can happen to an option of the first end, whatever is asked by both ends and whenever, ends quiet and agreed on.
func TestPairOfMachines(t *testing.T) {
	moves := []move{{end: 0, hear: true}, {end: 1, hear: true}, {end: 0, side: option.Us}, {end: 0, side: option.Us, on: true}, {end: 1, side: option.Him}, {end: 1, side: option.Him, on: true}}
	for _, first := range []bool{false, true} {
		for _, second := range []bool{false, true} {
			stories := [][]move{nil}
			seen := map[string]bool{newPair(first, second).key(25): true}
			for len(stories) > 0 {
				story := stories[0]
				stories = stories[1:]
				for _, pick := range []func(int) int{pickFirst, pickSecond, pickInTurn} {
					p := replay(t, first, second, story)
					p.settle(t, 40, pick)
					p.agree(t, story)
				}
				for _, m := range moves {
					next := append(story[:len(story):len(story)], m)
					key := replay(t, first, second, next).key(25)
					if !seen[key] {
						seen[key] = true
						stories = append(stories, next)
					}
				}
				if len(seen) > 2000 {
					t.Fatal("there is no end to what can happen")
				}
			}
			if len(seen) < 20 {
				t.Errorf("only %d cases were seen", len(seen))
			}
		}
	}
}

// P8.2: an option that is asked for becomes on if the other end agrees to it, and off otherwise.
func TestWhatIsAgreedOn(t *testing.T) {
	for _, agrees := range []bool{false, true} {
		p := newPair(false, agrees)
		p.ask(0, option.Us, 25, true)
		p.settle(t, 40, pickFirst)
		if p.ends[0].On(option.Us, 25) != agrees || p.ends[1].On(option.Him, 25) != agrees {
			t.Errorf("agreement %v: our side is %d", agrees, p.ends[0].State(option.Us, 25))
		}
		p = newPair(agrees, false)
		p.ask(1, option.Him, 25, true)
		p.settle(t, 40, pickFirst)
		if p.ends[0].On(option.Us, 25) != agrees || p.ends[1].On(option.Him, 25) != agrees {
			t.Errorf("agreement %v: our side is %d", agrees, p.ends[0].State(option.Us, 25))
		}
		p.ask(1, option.Him, 25, false)
		p.settle(t, 40, pickSecond)
		if p.ends[0].On(option.Us, 25) || p.ends[1].On(option.Him, 25) {
			t.Error("on after off was asked for")
		}
	}
}

// P8.2: both sides of many options at once.
func TestPairOfMachinesWithManyOptions(t *testing.T) {
	r := rand.New(rand.NewSource(8))
	some := func() []byte {
		var l []byte
		for o := range 256 {
			if r.Intn(2) == 0 {
				l = append(l, byte(o))
			}
		}
		return l
	}
	for round := range 40 {
		p := &pair{ends: [2]*option.Machine{option.New(some(), some()), option.New(some(), some())}}
		width := 1 << (round % 9)
		for range 2000 {
			m := move{end: r.Intn(2), hear: r.Intn(3) == 0, side: r.Intn(2), on: r.Intn(2) == 0}
			p.do(t, m, byte(r.Intn(width)))
		}
		p.settle(t, 20000, func(int) int { return r.Intn(2) })
		p.agree(t, round)
	}
}
