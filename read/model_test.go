package read_test

import (
	"math/rand/v2"
	"testing"

	"vitrine/api"
	"vitrine/read"
	"vitrine/space"
)

// model sends plain cells as the chapter tells it.
type model struct {
	cells  []api.Cell
	cursor int
	mode   int
	sent   []byte
	last   [3]byte // what was sent last of highlighting, color and set
}

func modelOf(s *space.Space, aid byte, mode int) *model {
	m := &model{cursor: s.Cursor(), mode: mode}
	for _, c := range s.All() {
		m.cells = append(m.cells, c)
	}
	m.sent = append([]byte{aid}, to(m.cursor)...)
	return m
}

func (m *model) character(c api.Cell) {
	look := [3]byte{c.High, c.Color, c.Set}
	for i := range look {
		if m.mode == 2 && look[i] != m.last[i] {
			m.sent = append(m.sent, 0x28, 0x41+byte(i), look[i])
			m.last[i] = look[i]
		}
	}
	if m.mode != 2 && c.Set == 0xf1 {
		m.sent = append(m.sent, 0x08)
	}
	if isOrder(c.Char) {
		c.Char = 0x3f
	}
	m.sent = append(m.sent, c.Char)
}

func (m *model) attribute(c api.Cell) {
	code := six(int(c.FA & 0x3d))
	if m.mode == 0 {
		m.sent = append(m.sent, 0x1d, code)
		return
	}
	pairs := []byte{0xc0, code}
	for i, v := range [3]byte{c.High, c.Color, c.Set} {
		if v != 0 {
			pairs = append(pairs, 0x41+byte(i), v)
		}
	}
	m.sent = append(append(m.sent, 0x29, byte(len(pairs)/2)), pairs...)
}

func (m *model) whole() string {
	for _, c := range m.cells {
		if c.Attr {
			m.attribute(c)
		} else {
			m.character(c)
		}
	}
	return string(m.sent)
}

// changed goes from each modified attribute forward to the next attribute, around the screen.
func (m *model) changed() string {
	fields := 0
	for n, c := range m.cells {
		if !c.Attr {
			continue
		}
		fields++
		if c.FA&1 == 0 {
			continue
		}
		n = (n + 1) % len(m.cells)
		m.sent = append(append(m.sent, 0x11), to(n)...)
		for ; !m.cells[n].Attr; n = (n + 1) % len(m.cells) {
			if m.cells[n].Char != 0 {
				m.character(m.cells[n])
			}
		}
	}
	for _, c := range m.cells {
		if fields == 0 && c.Char != 0 {
			m.character(c)
		}
	}
	return string(m.sent)
}

// checkAll compares the three reads of a screen, For, Length and Most with the model, in each mode.
func checkAll(t *testing.T, s *space.Space, aid byte) {
	t.Helper()
	before := s.Copy()
	for mode := range 3 {
		whole, changed := modelOf(s, aid, mode).whole(), modelOf(s, aid, mode).changed()
		for _, r := range readers() {
			want := changed
			if r.name == "Buffer" {
				want = whole
			} else if r.name == "Modified" && isShort(aid) {
				want = string([]byte{aid})
			}
			p, e := r.read(s, aid, mode)
			checkRead(t, r.name, p, e, want)
			p, e = read.For(s, r.command, aid, mode)
			checkRead(t, "For "+r.name, p, e, want)
			if len(p) > read.Most(s) {
				t.Fatalf("%s has %d bytes, Most is %d", r.name, len(p), read.Most(s))
			}
		}
		if got := read.Length(s, mode); got != len(whole) {
			t.Fatalf("Length in mode %d is %d, want %d", mode, got, len(whole))
		}
	}
	if !s.Same(before) {
		t.Fatal("a read has changed the screen")
	}
}

// P19.1 and P19.2: screens by chance, from no attribute to attributes alone, of each model and size.
func TestRandomScreens(t *testing.T) {
	r := rand.New(rand.NewPCG(19, 1))
	aids := []byte{0x7d, 0xf1, 0x60, 0x6c, 0x6e, 0x6b, 0x6d, 0x7e, 0x00, 0x11}
	for _, every := range []int{0, 1, 2, 3, 9, 60, 500, 4000} {
		eachScreen(t, func(s *space.Space) {
			for range 6 {
				scatter(r, s, every)
				checkAll(t, s, aids[r.IntN(len(aids))])
			}
		})
	}
}

// P19.1: screens of nothing, of one character, of one attribute at each of some positions, of each model and size.
func TestSimpleScreens(t *testing.T) {
	eachScreen(t, func(s *space.Space) {
		checkAll(t, s, 0x7d)
		last := s.Size().Cells() - 1
		for _, n := range []int{0, 1, 2, 63, 64, 79, 80, 1000, last - 1, last} {
			for _, c := range []api.Cell{char(0xc1), escape(0xc5), field(0x00), field(0x01), field(0x21), field(0x3d)} {
				s.Clear(s.Alternate())
				s.Set(n, c)
				s.Place(n)
				checkAll(t, s, 0x7d)
				s.Put(0, 0xc2)
				s.Put(last, 0xc3)
				checkAll(t, s, 0x6d)
			}
		}
	})
}

// P2: the same screen is read as the same each time, also a copy of it.
func TestSameAgain(t *testing.T) {
	r := rand.New(rand.NewPCG(2, 19))
	for _, every := range []int{0, 5, 100} {
		s := newScreen(t, 4, true)
		scatter(r, s, every)
		for _, one := range readers() {
			for mode := range 3 {
				first, _ := one.read(s, 0x7d, mode)
				for range 2 {
					p, e := one.read(s.Copy(), 0x7d, mode)
					checkRead(t, one.name, p, e, string(first))
				}
			}
		}
	}
}
