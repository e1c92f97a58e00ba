package erase_test

import (
	"math"
	"math/rand/v2"
	"slices"
	"testing"

	"vitrine/api"
	"vitrine/space"
)

// sample has the cells of a screen of 24 rows of 80, or of 27 of 132. What a call must do is worked out with it, without the program.
type sample []api.Cell

const narrow, wide = 1920, 3564

// fills are what samples have at positions without attributes: nothing, no null, and nulls here and there.
func fills() []func(n int) byte {
	return []func(n int) byte{
		func(int) byte { return 0 },
		func(n int) byte { return byte(n%255) + 1 },
		func(n int) byte {
			if n%13 == 5 || n%97 == 0 {
				return 0
			}
			return byte(n%255) + 1
		},
	}
}

// lay makes a sample with attributes: pairs of a position, which counts from the end if it is below 0, and the six bits. No two cells next to each other have the same display attributes.
func lay(cells int, fill func(n int) byte, pairs ...int) sample {
	c := make(sample, cells)
	for n := range c {
		c[n] = api.Cell{Char: fill(n), High: byte(n % 5), Color: byte(n % 7), Set: byte(n % 3)}
	}
	for i := 0; i < len(pairs); i += 2 {
		n := c.wrap(pairs[i])
		c[n].Attr, c[n].Char, c[n].FA = true, 0, byte(pairs[i+1])
	}
	return c
}

// layouts are attributes of every kind that the chapter has something to say of.
func layouts() [][]int {
	l := [][]int{
		{},                               // no attribute
		{0, 0},                           // one, at position 0
		{-1, 0x01},                       // one, at the last position
		{700, 0x10},                      // one, in the middle
		{700, 0x21},                      // a protected one
		{2, 0x20, 5, 0x01},               // a field around the screen
		{2, 0x01, 5, 0x21},               // a protected one
		{0, 0, 1, 1, 2, 0, 3, 0x21},      // next to each other, at the beginning
		{-3, 0, -2, 1, -1, 0},            // and at the end
		{0, 0x21, -1, 1},                 // and around the screen
		{0, 1, -1, 0x21},                 // the other one protected
		{0, 0x20, 100, 0x21, -1, 0x3d},   // protected ones only
		{79, 1, 80, 0, 131, 0, 132, 0x1}, // at the edges of rows
		{78, 0x20, 81, 0, 130, 0x30, 133, 0x0d, 160, 0, 264, 0x11, -2, 0x20}, // and beside them
	}
	r := rand.New(rand.NewPCG(8, 14))
	for _, every := range []int{2, 5, 40, 300} {
		var pairs []int
		for n := range narrow {
			if r.IntN(every) == 0 {
				pairs = append(pairs, n, r.IntN(64)&0x3d)
			}
		}
		l = append(l, pairs)
	}
	everywhere := make([]int, 0, 2*narrow)
	for n := range narrow {
		everywhere = append(everywhere, n, n%2)
	}
	return append(l, everywhere)
}

// each runs a check for each layout with each of the fills, of both sizes.
func each(t *testing.T, check func(c sample)) {
	t.Helper()
	for _, cells := range []int{narrow, wide} {
		for _, fill := range fills() {
			for _, pairs := range layouts() {
				check(lay(cells, fill, pairs...))
			}
		}
	}
}

func (c sample) cols() int {
	if len(c) == wide {
		return 132
	}
	return 80
}

func (c sample) wrap(n int) int {
	return (n%len(c) + len(c)) % len(c)
}

// screen makes the space of a sample, with the cursor at a position that no call knows of.
func (c sample) screen(t *testing.T) *space.Space {
	t.Helper()
	s, e := space.New(5)
	if e != api.OK {
		t.Fatal(e)
	}
	s.Clear(len(c) == wide)
	for n, cell := range c {
		s.Set(n, cell)
	}
	s.Place(1234)
	return s
}

// check compares a space with a sample, and its cursor.
func (c sample) check(t *testing.T, s *space.Space, cursor int, what ...any) {
	t.Helper()
	for n, cell := range s.All() {
		if cell != c[n] {
			t.Fatalf("%v, attributes at %d: the cell at %d is %v, want %v", what, c.attrs(), n, cell, c[n])
		}
	}
	if s.Size().Cells() != len(c) || s.Cursor() != cursor {
		t.Fatalf("%v, attributes at %d: the cursor is at %d of %d, want %d", what, c.attrs(), s.Cursor(), s.Size().Cells(), cursor)
	}
}

func (c sample) attrs() []int {
	var l []int
	for n, cell := range c {
		if cell.Attr {
			l = append(l, n)
		}
	}
	return l
}

// starts tells of each position where its field's attribute is, or -1 if there is none.
func (c sample) starts() []int {
	start := -1
	if attrs := c.attrs(); len(attrs) > 0 {
		start = attrs[len(attrs)-1]
	}
	starts := make([]int, len(c))
	for n, cell := range c {
		if cell.Attr {
			start = n
		}
		starts[n] = start
	}
	return starts
}

// unprotected tells of each position whether its field is unprotected, or there is none.
func (c sample) unprotected() []bool {
	unprotected := make([]bool, len(c))
	for n, start := range c.starts() {
		unprotected[n] = start < 0 || c[start].FA&0x20 == 0
	}
	return unprotected
}

// rest lists the positions from n up to the next attribute: around the screen if there is one.
func (c sample) rest(n int) []int {
	var l []int
	for range c {
		if c[n].Attr {
			break
		}
		l = append(l, n)
		n = c.wrap(n + 1)
	}
	return l
}

// put changes the characters of positions, in order.
func (c sample) put(positions []int, codes []byte) {
	for i, n := range positions {
		c[n].Char = codes[i]
	}
}

func (c sample) codes(positions []int) []byte {
	codes := make([]byte, len(positions))
	for i, n := range positions {
		codes[i] = c[n].Char
	}
	return codes
}

// positions are those at the sample's ends, at the ends of some rows and around its attributes; of many attributes, some.
func (c sample) positions() []int {
	l := []int{0, 1, 79, 80, 131, 132, 500, len(c) - c.cols(), len(c) - 2, len(c) - 1}
	attrs := c.attrs()
	for i := 0; i < len(attrs); i += 1 + len(attrs)/20 {
		for _, by := range []int{-2, -1, 0, 1, 2, 7} {
			l = append(l, c.wrap(attrs[i]+by))
		}
	}
	slices.Sort(l)
	return slices.Compact(l)
}

// numbers are these positions, some of them by numbers below 0 and beyond the screen, up to the greatest.
func (c sample) numbers() []int {
	l := []int{math.MaxInt, math.MaxInt - 1, math.MinInt, math.MinInt + 1, 1 << 40, -1 << 40}
	for i, n := range c.positions() {
		l = append(l, n+(i%5-2)*len(c))
	}
	return l
}
