package keys_test

import (
	"math/rand/v2"
	"testing"

	"vitrine/api"
	"vitrine/keys"
	"vitrine/space"
)

// randomScreen has attributes at some of every few positions (none if every is 0), and characters that may be selected.
func randomScreen(t *testing.T, r *rand.Rand, every int) *space.Space {
	t.Helper()
	s := newScreen(t, nil, 0)
	s.Clear(r.IntN(2) == 0)
	codes := []byte{0, 0, 0x40, 0xc1, 0xf1, 0x6f, 0x6e, 0x50}
	for n := range s.Size().Cells() {
		c := api.Cell{Char: codes[r.IntN(len(codes))], Color: 0xf2 * byte(r.IntN(2)), Set: 0xf1 * byte(r.IntN(2))}
		if every > 0 && r.IntN(every) == 0 {
			c.Attr, c.FA = true, byte(r.IntN(64))
		}
		s.Set(n, c)
	}
	s.Place(r.IntN(s.Size().Cells()))
	return s
}

// randomKey is any key; those that lock the keyboard until the host frees it are seldom.
func randomKey(r *rand.Rand) keys.Key {
	kind := r.IntN(25) - 1
	if kind >= keys.Enter && kind <= keys.Clear && r.IntN(4) > 0 {
		kind = keys.Code
	}
	l := keysOf(kind)
	return l[r.IntN(len(l))]
}

// protectedAt tells of each position whether its field is protected; it goes forward from the last attribute.
func protectedAt(s *space.Space) []bool {
	l := make([]bool, s.Size().Cells())
	protected := false
	for range 2 {
		for n, c := range s.All() {
			if c.Attr {
				protected = c.FA&0x20 != 0
			}
			l[n] = protected
		}
	}
	return l
}

// checkKept compares a screen with what it was before a key that was not Clear: P18.3.
func checkKept(t *testing.T, k keys.Key, before, after *space.Space) {
	t.Helper()
	protected := protectedAt(before)
	for _, n := range before.Diff(after) {
		was, is := before.At(n), after.At(n)
		if was.Attr {
			unmodified := was.FA&1 != 0 && is.FA&1 == 0
			was.FA, is.FA = was.FA&^1, is.FA&^1
			if was != is || unmodified && k.Kind != keys.EraseInput {
				t.Fatalf("%+v changes the attribute at %d from %v to %v", k, n, before.At(n), after.At(n))
			}
		} else if protected[n] {
			t.Fatalf("%+v changes the protected position %d from %v to %v", k, n, was, is)
		}
	}
}

// checkPressed compares what a key returned with what became of the keyboard.
func checkPressed(t *testing.T, k keys.Key, sent bool, e api.Errno, was, is state) {
	t.Helper()
	locks := map[api.Errno]int{api.ErrProtect: 2, api.ErrNumeric: 3, api.ErrFull: 4, api.ErrArg: was.lock, api.ErrSign: was.lock, api.ErrLocked: was.lock}
	want := state{locks[e], was.inserts, was.aid}
	switch {
	case sent:
		want = state{1, false, is.aid}
	case e == api.OK && k.Kind == keys.Reset:
		want = state{was.lock, false, was.aid}
		if was.lock != 1 {
			want.lock = 0
		}
	case e == api.OK && k.Kind == keys.Insert:
		want.inserts = !was.inserts
	}
	if is != want {
		t.Fatalf("%+v, %v, %d: the keyboard was %+v, and is %+v", k, sent, e, was, is)
	}
}

// P18.1 and P18.3: keys by chance. Whatever they are, what is protected stays, a key that fails changes no screen, and a locked keyboard changes nothing.
func TestRandomKeys(t *testing.T) {
	r := rand.New(rand.NewPCG(18, 3))
	for _, every := range []int{0, 3, 6, 12, 60, 700} {
		for range 12 {
			s := randomScreen(t, r, every)
			b := newBoard(t, s)
			for range 60 {
				if r.IntN(3) == 0 {
					b.Restore()
				}
				k := randomKey(r)
				before, was := s.Copy(), stateOf(b)
				sent, e := b.Press(k)
				checkPressed(t, k, sent, e, was, stateOf(b))
				if e != api.OK || was.lock != 0 {
					sameScreen(t, "a key that fails", s, before)
				}
				if was.lock != 0 && k.Kind != keys.Reset && e == api.OK {
					t.Fatalf("%+v with the lock %d", k, was.lock)
				}
				if k.Kind == keys.Clear && sent {
					s = randomScreen(t, r, every)
					b = b.Copy(s)
					continue
				}
				checkKept(t, k, before, s)
			}
		}
	}
}

// P2: the same keys on the same screen do the same, on a copy too, and Type presses Char.
func TestSameAgain(t *testing.T) {
	r := rand.New(rand.NewPCG(2, 18))
	for range 60 {
		first := randomScreen(t, r, 15)
		second := first.Copy()
		b, c := newBoard(t, first), newBoard(t, second)
		for range 40 {
			k := randomKey(r)
			sent, e := b.Press(k)
			press(t, c, k, sent, e)
			if r.IntN(3) == 0 {
				b.Restore()
				c = c.Copy(second)
				c.Restore()
			}
			n, e := b.Type("A7")
			for i, sign := range "A7" {
				if i <= n {
					_, last := c.Press(keys.Key{Kind: keys.Char, Sign: sign})
					if i == n && last != e {
						t.Fatalf("Type: %d, %d, Press: %d", n, e, last)
					}
				}
			}
			checkState(t, "again", c, stateOf(b))
			sameScreen(t, "again", second, first)
		}
	}
}
