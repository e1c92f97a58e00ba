package session_test

import (
	"math"
	"slices"
	"strings"
	"testing"

	"vitrine/api"
	"vitrine/keys"
	"vitrine/link"
	"vitrine/option"
	"vitrine/session"
)

// P25.1: New returns a session, with each model and page, and each kind of link.
func TestNew(t *testing.T) {
	rows := map[int][2]int{2: {24, 80}, 3: {32, 80}, 4: {43, 80}, 5: {27, 132}}
	for model := 2; model <= 5; model++ {
		for _, number := range []int{37, 273, 297, 500, 1047, 1140} {
			for _, l := range []link.Config{{Type: "T"}, usual().Link, {Type: "T", Device: "~", Functions: []byte{0, 1, 2, 3, 4}, Extended: true}} {
				s := newSession(t, session.Config{Link: l, Model: model, Page: number})
				checkView(t, "new", s, session.View{State: newState(model, number)})
				checkErrors(t, "new", s)
				checkCounts(t, "new", s, 0, 0, 0, 0, 0, 0)
				checkOut(t, "new", s, "")
				checkScreen(t, "new", s, nil, 0)
				if s.Page().Number() != number || s.Screen().Model() != model || s.Screen().Size().Rows != 24 {
					t.Fatal(s.Page().Number(), s.Screen().Model())
				}
				takes(t, s, toBasic+inMode(basic, "\x7e\x40"), 1, saysBasic)
				if size := s.Screen().Size(); size.Rows != rows[model][0] || size.Cols != rows[model][1] {
					t.Fatalf("model %d: %v", model, size)
				}
			}
		}
	}
}

// wrongLinks are the link's errors, each alone and two at once.
func wrongLinks() map[*link.Config]api.Errno {
	long := strings.Repeat("n", api.MaxName+1)
	return map[*link.Config]api.Errno{
		{}: api.ErrForm, {Type: long}: api.ErrForm, {Type: "a b"}: api.ErrForm, {Type: "T", Device: long}: api.ErrForm, {Type: "T", Device: "\x7f"}: api.ErrForm,
		{Type: "T", Functions: []byte{5}}: api.ErrArg, {Type: "T", Functions: []byte{2, 2}}: api.ErrArg, {Type: "T", Functions: []byte{2, 0}}: api.ErrArg,
		{Device: " "}: api.ErrForm, {Type: "T", Device: " ", Functions: []byte{5}}: api.ErrForm, {Functions: []byte{2, 2}, Extended: true}: api.ErrForm,
	}
}

// wrongTerms are models and pages of which one, or both, are not there.
var wrongTerms = [][2]int{{0, 37}, {1, 37}, {6, 37}, {-2, 37}, {258, 37}, {1<<32 + 2, 37}, {math.MinInt, 37}, {math.MaxInt, 37},
	{2, 0}, {2, 36}, {5, -37}, {2, 37 + 256}, {2, 37 + 1<<16}, {2, 1<<32 + 37}, {2, math.MinInt}, {2, math.MaxInt}, {0, 0}, {6, 36}}

// P25.1: the errors of the link, and then those of the terminal, each alone and two at once.
func TestNewErrors(t *testing.T) {
	fails := func(l link.Config, model, number int, want api.Errno) {
		t.Helper()
		if s, e := session.New(session.Config{Link: l, Model: model, Page: number}); s != nil || e != want {
			t.Errorf("New(%+v, %d, %d): %v, %d, want %d", l, model, number, s, e, want)
		}
	}
	for l, want := range wrongLinks() {
		fails(*l, 2, 37, want)
		for _, w := range wrongTerms {
			fails(*l, w[0], w[1], want)
		}
	}
	for _, w := range wrongTerms {
		fails(usual().Link, w[0], w[1], api.ErrNone)
		fails(link.Config{Type: "T"}, w[0], w[1], api.ErrNone)
	}
}

// P25.2: for a nil session there is ErrNone, 0, nothing, nil and an empty view, whatever it is given.
func TestNil(t *testing.T) {
	var s *session.Session
	for _, p := range [][]byte{nil, {}, []byte("a"), []byte(toExt + headed(0, 2, 1, form))} {
		if n := s.Bytes(p); n != 0 {
			t.Error(n)
		}
	}
	for kind := -1; kind < 25; kind++ {
		if e := s.Key(keys.Key{Kind: kind, Sign: 'A', N: 1}); e != api.ErrNone {
			t.Error(kind, e)
		}
	}
	for _, text := range []string{"", "A", "\n", "\xff"} {
		if n, e := s.Type(text); n != 0 || e != api.ErrNone {
			t.Error(n, e)
		}
	}
	if s.Out() != nil || s.View() != (session.View{}) || s.Screen() != nil || s.Page() != nil || s.Tally() != nil || s.Options() != nil {
		t.Error(s.Out(), s.View())
	}
	checkErrors(t, "nil", s)
	if s.Errors() == nil {
		t.Error("no iterator")
	}
}

// P25.2: the view has the mode, the device, the state, the text and whether an element is incomplete.
func TestView(t *testing.T) {
	s := newSession(t, usual())
	want := session.View{State: newState(2, 37)}
	at := func(p string) {
		t.Helper()
		s.Bytes([]byte(p))
		checkView(t, p, s, want)
	}
	want.Text = "hi"
	at("hi")
	want.Waits = true
	at("\xff")
	want.Waits = false
	at("\xfd\x28")
	at(sendDev)
	want.Device = "LU9"
	at(deviceIs)
	want.Mode = extended
	at(funcsIs)
	want.Waits = true
	at("\x00\x00\x00\x00\x01" + form)
	want.Waits, want.State.Cursor = false, 1
	at(eor)
	s.Type("A")
	want.State.Cursor = 2
	at("")
	s.Key(keys.Key{Kind: keys.Insert})
	want.State.Inserts = true
	at("")
	s.Key(keys.Key{Kind: keys.Up})
	s.Key(keys.Key{Kind: keys.Delete})
	want.State.Cursor, want.State.Lock = 1842, 2
	at("")
	want.State.Lock, want.State.Mode = 0, 2
	at(headed(0, 0, 0, "\xf1\x02") + headed(0, 0, 0, "\xf3\x00\x05\x09\x00\x02"))
	s.Key(keys.Key{Kind: keys.PA, N: 2})
	want.State.Lock, want.State.AID, want.State.Inserts = 1, 0x6e, false
	at("")
	want.Mode, want.Device = plain, ""
	at(dontExt)
	want.Text = "hibye"
	at("bye")
}

// P25.2: the device is the one that was obtained, not the one that was asked for; it goes when another is negotiated.
func TestDevice(t *testing.T) {
	s := newSession(t, usual())
	for _, c := range []struct {
		said, device string
		mode         int
	}{
		{doExt, "", plain}, {sendDev, "", plain}, {deviceIs, "LU9", plain}, {funcsIs, "LU9", extended}, {sendDev, "", plain},
		{strings.Replace(deviceIs, "LU9", "ANOTHER", 1), "ANOTHER", plain}, {funcsIs, "ANOTHER", extended}, {dontExt, "", plain}, {toBasic, "", basic}, {toExt, "LU9", extended},
	} {
		s.Bytes([]byte(c.said))
		checkView(t, c.said, s, session.View{Mode: c.mode, Device: c.device, State: newState(2, 37)})
	}
}

// P25.2: Screen is a copy: neither it nor the session changes with the other.
func TestScreenIsACopy(t *testing.T) {
	s := formed(t, basic)
	a, b := s.Screen(), s.Screen()
	a.Set(0, attribute(0x30))
	a.Put(1, 0xc5)
	a.Place(9)
	checkScreen(t, "changed", s, cells{0: attribute(0), 6: attribute(0x20)}, 1)
	if !b.Same(s.Screen()) || a.Same(b) {
		t.Error("two copies hang on each other")
	}
	a.Clear(false)
	types(t, s, "A", 1, api.OK)
	if b.At(1).Char != 0 || b.Cursor() != 1 || b.At(0).FA != 0 {
		t.Error("the copy changes with the session")
	}
	checkScreen(t, "typed", s, cells{0: attribute(1), 1: char(0xc1), 6: attribute(0x20)}, 2)
}

// P25.2: Page, Tally and Options are the objects themselves, each time the same ones.
func TestObjects(t *testing.T) {
	s := formed(t, extended)
	if s.Page() != s.Page() || s.Tally() != s.Tally() || s.Options() != s.Options() || s.Page() == nil || s.Tally() == nil || s.Options() == nil {
		t.Fatal("other objects")
	}
	counted := s.Tally()
	types(t, s, "AB", 2, api.OK)
	if counted.Get("keys") != 2 || counted.Get("records") != 1 {
		t.Error("the tally is no more the terminal's")
	}
	counted.Reset()
	checkCounts(t, "reset", s, 0, 0, 0, 0, 0, 0)
	if l := counted.Names(); !slices.Equal(l, names) {
		t.Error(l)
	}
	o := s.Options()
	if !o.On(option.Us, 0x28) || o.On(option.Us, 0) || o.On(option.Him, 0x28) || !o.Quiet() {
		t.Error("the options are others")
	}
	takes(t, s, dontExt+toBasic, 0, "\xff\xfc\x28"+saysBasic)
	if o.On(option.Us, 0x28) || !o.On(option.Us, 0) || !o.On(option.Him, 0x19) {
		t.Error("the options are no more the link's")
	}
	if _, e := o.Ask(option.Us, 0x19, false); e != api.OK || s.View().Mode != plain {
		t.Error("what is asked of the options is not asked of the link")
	}
}

// P2: sessions do not hang on each other.
func TestTwoSessions(t *testing.T) {
	a, b := formed(t, extended), formed(t, basic)
	types(t, a, "AB", 2, api.OK)
	takes(t, a, headed(5, 2, 1, "nvt")+headed(1, 0, 2, "")+"x", 2, positive(1))
	want := session.View{Mode: basic, State: newState(2, 37)}
	want.State.Cursor = 1
	checkView(t, "the other", b, want)
	checkScreen(t, "the other", b, cells{0: attribute(0), 6: attribute(0x20)}, 1)
	checkErrors(t, "the other", b, api.OK)
	checkCounts(t, "the other", b, 0, 0, 0, 1, 0, 0)
	press(t, b, keys.Key{Kind: keys.Enter}, api.OK, wrapped("\x7d\x40\xc1"))
	press(t, a, keys.Key{Kind: keys.Enter}, api.OK, headed(0, 0, 0, "\x7d\x40\xc3\x11\x40\xc1\xc1\xc2"))
}
