package cursor_test

import (
	"math"
	"math/rand/v2"
	"slices"
	"testing"

	"vitrine/api"
	"vitrine/space"
)

// sample is a screen of that many rows and columns by its attributes: their positions, increasing, and their six bits.
type sample struct {
	rows, cols int
	at         []int
	bits       map[int]byte
}

// lay makes a sample with attributes: pairs of a position, which counts from the end if it is below 0, and the six bits.
func lay(rows, cols int, pairs ...int) sample {
	c := sample{rows: rows, cols: cols, bits: map[int]byte{}}
	for i := 0; i < len(pairs); i += 2 {
		n := c.wrap(pairs[i])
		c.at = append(c.at, n)
		c.bits[n] = byte(pairs[i+1])
	}
	slices.Sort(c.at)
	return c
}

// scattered lays attributes out by chance, one at some of every few positions.
func scattered(r *rand.Rand, cells, every int) []int {
	var pairs []int
	for n := range cells {
		if r.IntN(every) == 0 {
			pairs = append(pairs, n, r.IntN(64)&0x3d)
		}
	}
	return pairs
}

// samples have attributes of every kind that the chapter has something to say of, on 24 rows of 80 and on 27 of 132.
func samples() []sample {
	r := rand.New(rand.NewPCG(8, 15))
	var l []sample
	for _, pairs := range [][]int{
		{},                             // no attribute
		{0, 0},                         // one, at position 0
		{-1, 0x01},                     // one, at the last position
		{700, 0x10},                    // one, in the middle
		{700, 0x20},                    // a protected one
		{700, 0x30},                    // a skipped one
		{0, 0x30, 5, 0},                // the chapter's example
		{2, 0x20, 5, 0},                // a field around the screen
		{2, 0, 5, 0x30},                // a protected one
		{0, 0, 1, 0, 2, 0, 3, 0x20},    // next to each other at the beginning
		{-3, 0, -2, 0, -1, 0},          // and at the end
		{-2, 0, -1, 0x30, 0, 0, 1, 0},  // and around the screen
		{0, 0x30, -1, 0},               // an unprotected field without positions, around the screen
		{0, 0x20, 100, 0x30, -1, 0x3d}, // protected ones only
		{10, 0, 20, 0x30, 21, 0, 30, 0x20, 40, 0},   // after an unprotected field a skipped one, a protected one
		{10, 0, 20, 0x30, 21, 0x30, 30, 0, 31, 0},   // two skipped ones, two unprotected ones
		{79, 0, 80, 0x30, 131, 0x20, 132, 0, -2, 0}, // at the edges of rows
		{160, 0x30, 170, 0, 264, 0x20, 270, 0},      // at the beginnings of rows
		scattered(r, 1920, 2), scattered(r, 1920, 4), scattered(r, 1920, 30), scattered(r, 1920, 400),
	} {
		l = append(l, lay(24, 80, pairs...), lay(27, 132, pairs...))
	}
	everywhere := lay(24, 80)
	for n := range 1920 {
		everywhere.at = append(everywhere.at, n)
		everywhere.bits[n] = byte(n%3) << 4
	}
	return append(l, everywhere)
}

func (c sample) cells() int {
	return c.rows * c.cols
}

func (c sample) wrap(n int) int {
	return (n%c.cells() + c.cells()) % c.cells()
}

// screen makes the space of a sample; some of its positions are null.
func (c sample) screen(t *testing.T) *space.Space {
	t.Helper()
	s, e := space.New(5)
	if e != api.OK {
		t.Fatal(e)
	}
	s.Clear(c.rows == 27)
	for n := range c.cells() {
		s.Put(n, byte(n%7))
	}
	for n, bits := range c.bits {
		s.Set(n, api.Cell{Attr: true, FA: bits, High: 0xf1})
	}
	return s
}

// open reports whether a position may be written.
func (c sample) open(n int) bool {
	if _, attribute := c.bits[n]; attribute || len(c.at) == 0 {
		return !attribute
	}
	i, _ := slices.BinarySearch(c.at, n)
	if i == 0 {
		i = len(c.at)
	}
	return c.bits[c.at[i-1]]&0x20 == 0
}

// firsts lists the first positions of the unprotected fields, increasing.
func (c sample) firsts() []int {
	var l []int
	for _, n := range c.at {
		next := c.wrap(n + 1)
		if _, attribute := c.bits[next]; c.bits[n]&0x20 == 0 && !attribute {
			l = append(l, next)
		}
	}
	slices.Sort(l)
	return l
}

// next and prev are where the tabs go from a position: around the screen, or to 0.
func (c sample) next(firsts []int, n int) int {
	if len(firsts) == 0 {
		return 0
	}
	i, _ := slices.BinarySearch(firsts, n+1)
	return firsts[i%len(firsts)]
}

func (c sample) prev(firsts []int, n int) int {
	if len(firsts) == 0 {
		return 0
	}
	i, _ := slices.BinarySearch(firsts, n)
	return firsts[(i+len(firsts)-1)%len(firsts)]
}

// positions are those at the screen's ends, at the ends of some rows and around the attributes; of many attributes, some.
func (c sample) positions() []int {
	l := []int{0, 1, 500, c.cells() - c.cols - 1, c.cells() - c.cols, c.cells() - 2, c.cells() - 1}
	for row := 1; row < 5; row++ {
		l = append(l, row*c.cols-2, row*c.cols-1, row*c.cols, row*c.cols+1)
	}
	for i := 0; i < len(c.at); i += 1 + len(c.at)/100 {
		for _, by := range []int{-2, -1, 0, 1, 2, -c.cols} {
			l = append(l, c.wrap(c.at[i]+by))
		}
	}
	slices.Sort(l)
	return slices.Compact(l)
}

// numbers are these positions, some of them by numbers below 0 and beyond the screen, up to the greatest.
func (c sample) numbers() []int {
	l := []int{math.MaxInt, math.MaxInt - 1, math.MinInt, math.MinInt + 1, 1 << 40, -1 << 40}
	for i, n := range c.positions() {
		l = append(l, n+(i%5-2)*c.cells())
	}
	return l
}

// eachMove runs a movement from the positions of each sample, compares where the cursor is then, and sees that no cell was changed.
func eachMove(t *testing.T, move func(s *space.Space), want func(c sample, firsts []int, n int) int) {
	t.Helper()
	for _, c := range samples() {
		s, firsts := c.screen(t), c.firsts()
		before := s.Copy()
		for _, n := range c.positions() {
			s.Place(n)
			move(s)
			if to := want(c, firsts, n); s.Cursor() != to {
				t.Fatalf("attributes at %d of %d: from %d the cursor goes to %d, want %d", c.at, c.cells(), n, s.Cursor(), to)
			}
		}
		if l := before.Diff(s); len(l) != 0 || s.Alternate() != before.Alternate() {
			t.Errorf("attributes at %d: %d were changed", c.at, l)
		}
	}
}
