package snap_test

import (
	"testing"

	"vitrine/api"
	"vitrine/class"
	"vitrine/page"
	"vitrine/snap"
	"vitrine/space"
)

// pages are the numbers of all pages.
var pages = []int{37, 273, 297, 500, 1047, 1140}

// escapes is the character set of the graphic escapes.
const escapes = 0xf1

// hidden are the six bits of a hidden field.
const hidden = 0x0c

func newPage(t *testing.T, number int) *page.Page {
	t.Helper()
	p, e := page.New(number)
	if e != api.OK {
		t.Fatal(e)
	}
	return p
}

// cells are what is on a screen, by position.
type cells map[int]api.Cell

// attribute is one with these six bits.
func attribute(bits byte) api.Cell {
	return api.Cell{Attr: true, FA: bits}
}

func char(code byte) api.Cell {
	return api.Cell{Char: code}
}

// escape is a graphic escape.
func escape(code byte) api.Cell {
	return api.Cell{Char: code, Set: escapes}
}

func newScreen(t *testing.T, model int, alternate bool, l cells) *space.Space {
	t.Helper()
	s, e := space.New(model)
	if e != api.OK {
		t.Fatal(e)
	}
	s.Clear(alternate)
	for n, c := range l {
		s.Set(n, c)
	}
	return s
}

// written has codes from a position on.
func written(t *testing.T, at int, codes string) *space.Space {
	t.Helper()
	s := newScreen(t, 2, false, nil)
	write(s, at, codes)
	return s
}

func write(s *space.Space, at int, codes string) {
	for i := range len(codes) {
		s.Put(at+i, codes[i])
	}
}

// displayed is the character of a position, by what the chapter says of it, step by step.
func displayed(s *space.Space, p *page.Page, n int) rune {
	c := s.At(n)
	if c.Attr {
		return ' '
	}
	cells := s.Size().Cells()
	for i := range cells {
		if a := s.At(s.Size().Wrap(n) + cells - i); a.Attr {
			if a.FA&hidden == hidden {
				return ' '
			}
			break
		}
	}
	if c.Set != escapes {
		return class.Shown(p, c.Char)
	}
	if sign, ok := page.Escape(c.Char); ok {
		return sign
	}
	return ' '
}

func checkSign(t *testing.T, s *space.Space, p *page.Page, n int, want rune) {
	t.Helper()
	if got := snap.Sign(s, p, n); got != want {
		t.Fatalf("Sign(%d) is %q, want %q (%v)", n, got, want, s.At(n))
	}
}

func checkLine(t *testing.T, s *space.Space, p *page.Page, row int, want string) {
	t.Helper()
	if got := snap.Line(s, p, row); got != want {
		t.Fatalf("Line(%d) is %q, want %q", row, got, want)
	}
}

func checkFind(t *testing.T, s *space.Space, p *page.Page, text string, want int) {
	t.Helper()
	if got := snap.Find(s, p, text); got != want {
		t.Fatalf("Find(%.60q) is %d, want %d", text, got, want)
	}
}
