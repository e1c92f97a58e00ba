package keys_test

import (
	"math"
	"testing"

	"vitrine/api"
	"vitrine/keys"
	"vitrine/page"
	"vitrine/space"
)

// P18.1: a new keyboard is free, and there is none without a screen and a page.
func TestNew(t *testing.T) {
	s := newScreen(t, cells{3: field(0x20)}, 9)
	b := newBoard(t, s)
	checkState(t, "new", b, state{0, false, 0x60})
	checkScreen(t, "new", s, cells{3: field(0x20)}, 9)
	var none *space.Space
	var noPage *page.Page
	for _, c := range []struct {
		s *space.Space
		p *page.Page
	}{{none, newPage(t, 37)}, {s, noPage}, {none, noPage}} {
		if b, e := keys.New(c.s, c.p); b != nil || e != api.ErrNone {
			t.Errorf("nil: %v, %d", b, e)
		}
	}
}

// The keys' kinds are numbered from 1 on, in the order of the chapter's table.
func TestKinds(t *testing.T) {
	for i, kind := range kinds() {
		if kind != i+1 {
			t.Errorf("the key %d of the list has the kind %d", i, kind)
		}
	}
	for kind, number := range map[int]int{keys.FieldMark: 4, keys.Home: 8, keys.Right: 0xc, keys.EraseEOF: 0xe, keys.EraseInput: 0xf, keys.Insert: 0x10, keys.Select: 0x12, keys.Clear: 0x16} {
		if kind != number {
			t.Errorf("the kind is %d, want %d", kind, number)
		}
	}
}

// locks are ways to lock the keyboard of a screen with an unprotected field at 0, a protected one at 10, and a numeric one at 20.
func locks(t *testing.T) map[string]struct {
	lock int
	run  func(s *space.Space, b *keys.Board)
} {
	t.Helper()
	type way = struct {
		lock int
		run  func(s *space.Space, b *keys.Board)
	}
	return map[string]way{
		"waiting": {1, func(s *space.Space, b *keys.Board) { b.Wait() }},
		"sent":    {1, func(s *space.Space, b *keys.Board) { press(t, b, keys.Key{Kind: keys.PF, N: 3}, true, api.OK) }},
		"protected": {2, func(s *space.Space, b *keys.Board) {
			s.Place(12)
			press(t, b, keys.Key{Kind: keys.Code, N: 0xf1}, false, api.ErrProtect)
		}},
		"numeric": {3, func(s *space.Space, b *keys.Board) {
			s.Place(22)
			press(t, b, keys.Key{Kind: keys.Code, N: 0xc1}, false, api.ErrNumeric)
		}},
		"overflow": {4, func(s *space.Space, b *keys.Board) {
			s.Place(1)
			do(t, b, keys.Insert)
			press(t, b, keys.Key{Kind: keys.Code, N: 0xc1}, false, api.ErrFull)
		}},
	}
}

// lockable is the screen of locks; every key could do something at 2.
func lockable() cells {
	l := cells{0: field(0x04), 10: field(0x21), 20: field(0x10), 30: field(0x20), 31: char(0xc1)}
	for n := 1; n < 10; n++ {
		l[n] = char(0x6f)
	}
	return l
}

// P18.1 and P18.3: in each lock no key but Reset has any effect; an invalid kind is told all the same.
func TestEachKeyInEachLock(t *testing.T) {
	for name, way := range locks(t) {
		for _, insert := range []bool{false, true} {
			s, b := on(t, lockable(), 2)
			way.run(s, b)
			lock := way.lock
			if insert != b.Inserts() {
				// Only a keyboard that is free can change its mode, so that Wait is what comes last.
				b.Restore()
				do(t, b, keys.Insert)
				b.Wait()
				lock = 1
			}
			s.Place(2)
			before, was := s.Copy(), stateOf(b)
			if was.lock != lock || was.inserts != insert {
				t.Fatalf("%s: the keyboard is %+v", name, was)
			}
			for _, kind := range kinds() {
				for _, k := range keysOf(kind) {
					if kind != keys.Reset {
						press(t, b, k, false, api.ErrLocked)
					}
					checkState(t, name, b, was)
					sameScreen(t, name, s, before)
				}
			}
			for _, kind := range invalidKinds() {
				press(t, b, keys.Key{Kind: kind, Sign: 'A', N: 1}, false, api.ErrArg)
			}
			if n, e := b.Type("A1"); n != 0 || e != api.ErrLocked {
				t.Errorf("%s: Type returns %d, %d", name, n, e)
			}
			if n, e := b.Type(""); n != 0 || e != api.OK {
				t.Errorf("%s: Type of nothing returns %d, %d", name, n, e)
			}
			checkState(t, name, b, was)
			sameScreen(t, name, s, before)
		}
	}
}

func invalidKinds() []int {
	return []int{0, -1, 23, 24, 100, 0x113, 256 + keys.Enter, math.MaxInt, math.MinInt}
}

// P18.1: invalid kinds while the keyboard is free, also where a key would fail.
func TestInvalidKinds(t *testing.T) {
	for _, n := range []int{2, 10, 12} {
		s, b := on(t, lockable(), n)
		do(t, b, keys.Insert)
		for _, kind := range invalidKinds() {
			press(t, b, keys.Key{Kind: kind, Sign: 'A', N: 1}, false, api.ErrArg)
		}
		checkState(t, "invalid kinds", b, state{0, true, 0x60})
		checkScreen(t, "invalid kinds", s, lockable(), n)
	}
}

// Reset frees the keyboard from the locks 2 to 4, not from 1; the insert mode ends in each.
func TestReset(t *testing.T) {
	for name, way := range locks(t) {
		s, b := on(t, lockable(), 2)
		way.run(s, b)
		before, aid := s.Copy(), b.AID()
		want := 0
		if way.lock == 1 {
			want = 1
		}
		for range 2 {
			do(t, b, keys.Reset)
			checkState(t, name, b, state{want, false, aid})
		}
		sameScreen(t, name, s, before)
	}
	s, b := on(t, lockable(), 2)
	do(t, b, keys.Insert, keys.Reset)
	checkState(t, "free", b, state{0, false, 0x60})
	do(t, b, keys.Insert)
	b.Wait()
	checkState(t, "waiting in insert mode", b, state{1, true, 0x60})
	do(t, b, keys.Reset)
	checkState(t, "waiting", b, state{1, false, 0x60})
	checkScreen(t, "waiting", s, lockable(), 2)
}

// Insert toggles its mode, which no character ends, and changes nothing else.
func TestInsertToggles(t *testing.T) {
	s, b := on(t, cells{0: field(0), 10: field(0x20)}, 12)
	for _, want := range []bool{true, false, true} {
		do(t, b, keys.Insert)
		checkState(t, "insert", b, state{0, want, 0x60})
	}
	checkScreen(t, "insert", s, cells{0: field(0), 10: field(0x20)}, 12)
	do(t, b, keys.Home)
	if n, e := b.Type("ab"); n != 2 || e != api.OK {
		t.Fatal(n, e)
	}
	do(t, b, keys.Tab, keys.Right, keys.Delete, keys.EraseEOF, keys.EraseInput, keys.Up, keys.Home, keys.Dup)
	checkState(t, "after keys", b, state{0, true, 0x60})
}

// P18.1: Restore and Wait, in each lock; the insert mode stays.
func TestRestoreAndWait(t *testing.T) {
	for name, way := range locks(t) {
		s, b := on(t, lockable(), 2)
		way.run(s, b)
		before, was := s.Copy(), stateOf(b)
		b.Wait()
		checkState(t, name, b, state{1, was.inserts, was.aid})
		b.Restore()
		checkState(t, name, b, state{0, was.inserts, 0x60})
		b.Restore()
		checkState(t, name, b, state{0, was.inserts, 0x60})
		sameScreen(t, name, s, before)
	}
}

// P18.2: a nil keyboard waits, and has no AID.
func TestNil(t *testing.T) {
	var b *keys.Board
	b.Restore()
	b.Wait()
	checkState(t, "nil", b, state{1, false, 0})
	for _, kind := range append(kinds(), invalidKinds()...) {
		press(t, b, keys.Key{Kind: kind, Sign: 'A', N: 1}, false, api.ErrNone)
	}
	for _, text := range []string{"", "A", "\xff"} {
		if n, e := b.Type(text); n != 0 || e != api.ErrNone {
			t.Errorf("%q: %d, %d", text, n, e)
		}
	}
	if o := b.Copy(newScreen(t, nil, 0)); o != nil {
		t.Errorf("the copy is %v", o)
	}
	if o := b.Copy(nil); o != nil {
		t.Errorf("the copy is %v", o)
	}
}

// P18.1: a copy is equal, in each lock and mode; without a screen there is none.
func TestCopyIsEqual(t *testing.T) {
	for name, way := range locks(t) {
		s, b := on(t, lockable(), 2)
		way.run(s, b)
		o := s.Copy()
		before := s.Copy()
		c := b.Copy(o)
		checkState(t, name, c, stateOf(b))
		if none := b.Copy(nil); none != nil {
			t.Errorf("%s: without a screen there is %v", name, none)
		}
		sameScreen(t, name, s, before)
		sameScreen(t, name, o, before)
	}
}

// P18.1: what is pressed on a copy happens on its screen alone, and the other way round; both have the same page.
func TestCopyIsIndependent(t *testing.T) {
	l := cells{0: field(0), 10: field(0x20)}
	for _, changed := range []int{0, 1} {
		first := newScreen(t, l, 3)
		second := newScreen(t, l, 7)
		b := boardOf(t, first, 273)
		boards := [2]*keys.Board{b, b.Copy(second)}
		screens := [2]*space.Space{first, second}
		cursors := [2]int{3, 7}
		at := cursors[changed]
		if n, e := boards[changed].Type("ä"); n != 1 || e != api.OK {
			t.Fatal(n, e)
		}
		checkScreen(t, "changed", screens[changed], cells{0: field(1), at: char(0xc0), 10: field(0x20)}, at+1)
		checkScreen(t, "the other", screens[1-changed], l, cursors[1-changed])
		do(t, boards[changed], keys.Insert)
		checkState(t, "the other", boards[1-changed], state{0, false, 0x60})
		press(t, boards[changed], keys.Key{Kind: keys.Enter}, true, api.OK)
		checkState(t, "the other", boards[1-changed], state{0, false, 0x60})
		checkState(t, "changed", boards[changed], state{1, false, 0x7d})
		do(t, boards[1-changed], keys.Insert)
		boards[1-changed].Wait()
		boards[changed].Restore()
		checkState(t, "the other", boards[1-changed], state{1, true, 0x60})
	}
}

// P18.1: a copy may be for a screen of another size, and for the same screen.
func TestCopyForOtherScreens(t *testing.T) {
	s, b := on(t, nil, 1919)
	o := newScreen(t, nil, 0)
	o.Clear(true)
	o.Place(3563)
	c := b.Copy(o)
	c.Type("AB")
	if o.At(3563).Char != 0xc1 || o.At(0).Char != 0xc2 || o.Cursor() != 1 {
		t.Errorf("%v, %v, %d", o.At(3563), o.At(0), o.Cursor())
	}
	checkScreen(t, "the first", s, nil, 1919)
	d := b.Copy(s)
	d.Type("A")
	b.Type("B")
	checkScreen(t, "one screen", s, cells{1919: char(0xc1), 0: char(0xc2)}, 1)
}

// The rule of memory: the keyboard uses its screen as it is when a key is pressed.
func TestScreenInItsState(t *testing.T) {
	s, b := on(t, cells{0: field(0x20)}, 5)
	s.Set(0, field(0x10))
	press(t, b, keys.Key{Kind: keys.Code, N: 0xc1}, false, api.ErrNumeric)
	do(t, b, keys.Reset)
	s.Clear(true)
	s.Place(3563)
	press(t, b, keys.Key{Kind: keys.Code, N: 0xc1}, false, api.OK)
	if s.At(3563) != char(0xc1) || s.Cursor() != 0 {
		t.Errorf("%v, %d", s.At(3563), s.Cursor())
	}
}

// P18.1 and P18.2: the chapter's example.
func TestExample(t *testing.T) {
	s, b := on(t, cells{0: field(0)}, 1)
	press(t, b, keys.Key{Kind: keys.Char, Sign: 'A'}, false, api.OK)
	press(t, b, keys.Key{Kind: keys.Char, Sign: 'b'}, false, api.OK)
	checkScreen(t, "example", s, cells{0: field(1), 1: char(0xc1), 2: char(0x82)}, 3)
	press(t, b, keys.Key{Kind: keys.Enter}, true, api.OK)
	checkState(t, "example", b, state{1, false, 0x7d})
}
