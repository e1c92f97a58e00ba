package keys_test

import (
	"math"
	"testing"

	"vitrine/api"
	"vitrine/keys"
)

// P18.2: each byte's name, and whether it is that of a PA or of Clear.
func TestNames(t *testing.T) {
	l := aids()
	for aid := range 256 {
		want := l[byte(aid)].name
		switch aid {
		case 0x7e:
			want = "Select"
		case 0x60:
			want = "None"
		}
		if got := keys.Name(byte(aid)); got != want {
			t.Errorf("Name(%x) is %q, want %q", aid, got, want)
		}
		short := aid == 0x6c || aid == 0x6e || aid == 0x6b || aid == 0x6d
		if got := keys.Short(byte(aid)); got != short {
			t.Errorf("Short(%x) is %v", aid, got)
		}
	}
}

// P18.2: the AID of each key that has one, whatever the fields are that its kind does not use.
func TestAIDs(t *testing.T) {
	l := aids()
	if len(l) != 29 {
		t.Fatalf("there are %d AIDs", len(l))
	}
	for want, c := range l {
		k := c.key
		k.Sign = 'A'
		if got, ok := keys.AID(k); got != want || !ok {
			t.Errorf("AID of %s is %x, %v, want %x", c.name, got, ok, want)
		}
	}
	for _, kind := range []int{keys.Enter, keys.Clear} {
		for _, n := range numbers() {
			if _, ok := keys.AID(keys.Key{Kind: kind, N: n}); !ok {
				t.Errorf("kind %d with %d has no AID", kind, n)
			}
		}
	}
}

// numbers are invalid for PF and for PA; 256 more than a valid number is, too.
func numbers() []int {
	return []int{0, -1, -3, 25, 26, 100, 256, 257, 258, 280, math.MaxInt, math.MinInt, math.MinInt + 1}
}

// P18.2: no other key has an AID, nor have a PF and a PA of other numbers.
func TestNoAID(t *testing.T) {
	check := func(k keys.Key) {
		if got, ok := keys.AID(k); got != 0 || ok {
			t.Errorf("%+v: %x, %v", k, got, ok)
		}
	}
	for _, kind := range append(kinds(), invalidKinds()...) {
		switch kind {
		case keys.Enter, keys.Clear:
		case keys.PF, keys.PA:
			for _, n := range numbers() {
				check(keys.Key{Kind: kind, N: n})
			}
		default:
			check(keys.Key{Kind: kind, N: 1, Sign: 'A'})
		}
	}
	for n := 4; n <= 24; n++ {
		check(keys.Key{Kind: keys.PA, N: n})
	}
}

// Each key that sends its AID locks the keyboard and ends the insert mode, wherever the cursor is; only Clear changes the screen.
func TestSend(t *testing.T) {
	for aid, c := range aids() {
		for _, insert := range []bool{false, true} {
			for _, n := range []int{0, 2, 12, 22, 1919} {
				s, b := on(t, lockable(), n)
				if insert {
					do(t, b, keys.Insert)
				}
				press(t, b, c.key, true, api.OK)
				checkState(t, c.name, b, state{1, false, aid})
				if c.key.Kind == keys.Clear {
					checkScreen(t, c.name, s, nil, 0)
				} else {
					checkScreen(t, c.name, s, lockable(), n)
				}
				b.Restore()
				checkState(t, c.name, b, state{0, false, 0x60})
			}
		}
	}
}

// The AID is the last one that was sent; what fails does not change it.
func TestAIDStays(t *testing.T) {
	_, b := on(t, lockable(), 2)
	press(t, b, keys.Key{Kind: keys.PA, N: 2}, true, api.OK)
	press(t, b, keys.Key{Kind: keys.Enter}, false, api.ErrLocked)
	checkState(t, "locked", b, state{1, false, 0x6e})
	b.Wait()
	checkState(t, "waiting", b, state{1, false, 0x6e})
	do(t, b, keys.Reset)
	checkState(t, "reset", b, state{1, false, 0x6e})
	b.Restore()
	press(t, b, keys.Key{Kind: keys.PF, N: 24}, true, api.OK)
	checkState(t, "the next one", b, state{1, false, 0x4c})
}

// PF and PA of other numbers fail without any effect.
func TestInvalidNumbers(t *testing.T) {
	for _, kind := range []int{keys.PF, keys.PA} {
		l := numbers()
		if kind == keys.PA {
			l = append(l, 4, 5, 12, 24)
		}
		for _, n := range l {
			s, b := on(t, lockable(), 2)
			do(t, b, keys.Insert)
			press(t, b, keys.Key{Kind: kind, N: n}, false, api.ErrArg)
			checkState(t, "invalid", b, state{0, true, 0x60})
			checkScreen(t, "invalid", s, lockable(), 2)
		}
	}
}

// Clear takes the screen back to the default size, also one that has the alternate size.
func TestClear(t *testing.T) {
	for _, alternate := range []bool{false, true} {
		s, b := on(t, nil, 0)
		s.Clear(alternate)
		s.Set(0, field(0x21))
		s.Put(5, 0xc1)
		s.Set(700, field(0x01))
		s.Place(700)
		press(t, b, keys.Key{Kind: keys.Clear}, true, api.OK)
		checkScreen(t, "Clear", s, nil, 0)
		checkState(t, "Clear", b, state{1, false, 0x6d})
	}
}
