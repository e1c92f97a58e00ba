package session_test

import (
	"slices"
	"strings"
	"testing"

	"vitrine/api"
	"vitrine/keys"
	"vitrine/session"
)

// The rule of memory: the configuration's functions are neither changed nor kept.
func TestConfigArgument(t *testing.T) {
	functions := []byte{2, 7, 7}[:1]
	c := usual()
	c.Link.Functions = functions
	s := newSession(t, c)
	if string(functions[:3]) != "\x02\x07\x07" {
		t.Fatal(functions[:3])
	}
	overwrite(functions)
	takes(t, s, toExt+headed(0, 2, 1, ""), 1, saysExt+positive(1))
}

// The rule of memory: bytes are neither changed nor kept, whatever they are.
func TestBytesArgument(t *testing.T) {
	s := newSession(t, usual())
	m := newMachine(t, usual())
	for _, p := range append(bytewise(stream()), stream(), "text", toBasic+wrapped(form), toExt+headed(5, 2, 1, "nvt")) {
		given := spare(p)
		s.Bytes(given)
		if !untouched(given, p) {
			t.Fatalf("%.60x is changed", p)
		}
		overwrite(given)
		m.bytes([]byte(p))
	}
	m.compare(t, "the stream", s)
	checkOut(t, "the stream", s, string(m.out()))
}

// The rule of memory: nil and empty bytes are the same, and have no effect.
func TestNoBytes(t *testing.T) {
	for _, p := range []string{"", "\xff", toBasic, toBasic + "\xf1", toExt, toExt + headed(0, 2, 1, form)} {
		s, again := newSession(t, usual()), newSession(t, usual())
		s.Bytes([]byte(p))
		again.Bytes([]byte(p))
		if s.Bytes(nil) != 0 || s.Bytes([]byte{}) != 0 || s.Bytes(make([]byte, 0, 9)) != 0 || !same(s, again) {
			t.Fatalf("%x: nothing has an effect", p)
		}
		checkOut(t, p, s, string(again.Out()))
	}
	a, e := session.New(session.Config{Link: linkWith(nil), Model: 2, Page: 37})
	b, f := session.New(session.Config{Link: linkWith([]byte{}), Model: 2, Page: 37})
	if e != api.OK || f != api.OK || !same(a, b) {
		t.Error(e, f)
	}
}

// The rule of memory: what Out returns is new, with its spare capacity.
func TestOutResult(t *testing.T) {
	s, m := newSession(t, usual()), newMachine(t, usual())
	var kept [][]byte
	var want []string
	for _, p := range strings.SplitAfter(stream(), eor) {
		s.Bytes([]byte(p))
		m.bytes([]byte(p))
		s.Key(keys.Key{Kind: keys.PA, N: 1})
		m.key(keys.Key{Kind: keys.PA, N: 1})
		got := s.Out()
		for _, old := range kept {
			overwrite(old[len(old):])
		}
		kept = append(kept, got)
		want = append(want, string(m.out()))
	}
	for i, p := range kept {
		if string(p) != want[i] {
			t.Fatalf("%d: %.60x, want %.60x", i, p, want[i])
		}
	}
	for _, p := range kept {
		overwrite(p)
	}
	m.compare(t, "overwritten", s)
}

// The rule of memory: errors that were asked for stay, however many follow.
func TestErrorsResult(t *testing.T) {
	s := reach(t, basic)
	s.Bytes([]byte(wrapped("\x99")))
	first := s.Errors()
	for range 200 {
		s.Bytes([]byte(wrapped("\xf1\x40")))
	}
	if l := slices.Collect(first); !slices.Equal(l, []api.Errno{api.ErrCommand}) {
		t.Error(l)
	}
}
