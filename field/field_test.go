package field_test

import (
	"bytes"
	"math"
	"math/rand/v2"
	"slices"
	"testing"

	"vitrine/api"
	"vitrine/attr"
	"vitrine/field"
	"vitrine/space"
)

// layout is a screen by its attributes: their positions, increasing, and their six bits.
type layout struct {
	cells int
	at    []int
	bits  []byte
}

// make24 lays attributes out on 24 rows of 80: pairs of a position and the six bits.
func make24(pairs ...int) layout {
	l := layout{cells: 1920}
	for i := 0; i < len(pairs); i += 2 {
		l.at = append(l.at, pairs[i])
		l.bits = append(l.bits, byte(pairs[i+1]))
	}
	return l
}

// everywhere has an attribute at each position.
func everywhere(bits byte) layout {
	l := layout{cells: 1920}
	for n := range l.cells {
		l.at = append(l.at, n)
		l.bits = append(l.bits, bits)
	}
	return l
}

// wide moves a layout to 27 rows of 132: its attributes stay as far from the end as they were.
func wide(l layout) layout {
	o := layout{cells: 3564, bits: l.bits}
	for _, n := range l.at {
		o.at = append(o.at, n+3564-1920)
	}
	return o
}

// scattered lays attributes out by chance, one at some of every few positions.
func scattered(r *rand.Rand, every int) layout {
	l := layout{cells: 1920}
	for n := range l.cells {
		if r.IntN(every) == 0 {
			l.at = append(l.at, n)
			l.bits = append(l.bits, byte(r.IntN(64))&0x3d)
		}
	}
	return l
}

// layouts are screens of every kind that the chapter has something to say of.
func layouts() []layout {
	l := []layout{
		make24(),                                       // no attribute
		make24(0, 0),                                   // one, at position 0
		make24(1919, 0),                                // one, at the last position
		make24(700, 0x01),                              // one, in the middle
		make24(700, 0x20),                              // one, protected
		make24(2, 0x20, 5, 0),                          // the chapter's example
		make24(0, 0, 1, 0, 2, 0),                       // next to each other at the beginning
		make24(1917, 0, 1918, 0, 1919, 0),              // and at the end
		make24(0, 0, 1919, 0),                          // and around the screen
		make24(0, 0x20, 1919, 0),                       // an unprotected field without positions, around the screen
		make24(0, 0, 1919, 0x20),                       // a protected one
		make24(0, 0x20, 100, 0x21, 1919, 0x3d),         // protected ones only
		make24(79, 0x20, 80, 0, 160, 0x30, 161, 0x20),  // on the edges of rows
		make24(3, 0, 4, 0x20, 9, 0, 10, 0),             // unprotected ones without positions
		make24(5, 0x04, 7, 0x31, 10, 0x0d, 1900, 0x1c), // with all that a field attribute can tell
		everywhere(0),
		everywhere(0x20),
	}
	for _, one := range l[:15] {
		l = append(l, wide(one))
	}
	r := rand.New(rand.NewPCG(7, 13))
	for _, every := range []int{2, 3, 10, 80, 600} {
		l = append(l, scattered(r, every))
	}
	return l
}

// code is what a layout's screen has at a position that is not an attribute; some are null.
func code(n int) byte {
	return byte(n * 7 % 256)
}

// screen makes the space of a layout.
func (l layout) screen(t *testing.T) *space.Space {
	t.Helper()
	s, e := space.New(5)
	if e != api.OK {
		t.Fatal(e)
	}
	s.Clear(l.cells == 3564)
	for n := range l.cells {
		s.Set(n, api.Cell{Char: code(n), Color: 0xf2})
	}
	for i, n := range l.at {
		s.Set(n, api.Cell{Attr: true, FA: l.bits[i], High: 0xf1})
	}
	return s
}

// index returns which attribute's field a position belongs to, or -1 if there is none.
func (l layout) index(n int) int {
	i, found := slices.BinarySearch(l.at, n)
	if found {
		return i
	}
	if i > 0 {
		return i - 1
	}
	return len(l.at) - 1
}

// protected and places tell of the field with that index.
func (l layout) protected(i int) bool {
	return l.bits[i]&0x20 != 0
}

func (l layout) places(i int) []int {
	end := l.at[0] + l.cells
	if i+1 < len(l.at) {
		end = l.at[i+1]
	}
	var positions []int
	for n := l.at[i] + 1; n < end; n++ {
		positions = append(positions, n%l.cells)
	}
	return positions
}

// firsts lists the first positions of unprotected fields, increasing.
func (l layout) firsts() []int {
	var positions []int
	for i := range l.at {
		if p := l.places(i); !l.protected(i) && len(p) > 0 {
			positions = append(positions, p[0])
		}
	}
	slices.Sort(positions)
	return positions
}

// each runs a check for each layout with its screen, and sees that the check changes nothing.
func each(t *testing.T, check func(l layout, s *space.Space)) {
	t.Helper()
	for _, l := range layouts() {
		s := l.screen(t)
		before := s.Copy()
		check(l, s)
		if !s.Same(before) {
			t.Errorf("%d: the screen was changed at %d", l.at, before.Diff(s))
		}
	}
}

// numbers are positions of a screen, with numbers below 0 and beyond it that stand for some of them. Of a wide screen, whose scanning takes long, they are those around its attributes, its ends and the ends of its rows.
func (l layout) numbers() []int {
	numbers := []int{
		-1, -2, -3, -l.cells, -l.cells - 1, 1 - l.cells, l.cells, l.cells + 1, 2*l.cells - 1, 5 * l.cells,
		math.MaxInt, math.MaxInt - 1, math.MinInt, math.MinInt + 1, 1 << 40, -1 << 40,
	}
	if l.cells == 1920 {
		for n := range l.cells {
			numbers = append(numbers, n)
		}
		return numbers
	}
	for _, n := range append([]int{0, 131, 132, 2639, 2640, 3563}, l.at...) {
		numbers = append(numbers, n-2, n-1, n, n+1, n+2)
	}
	return numbers
}

func (l layout) wrap(n int) int {
	return (n%l.cells + l.cells) % l.cells
}

// fieldOf is the field attribute of six bits.
func fieldOf(bits byte) attr.Field {
	return attr.Field{Protected: bits&0x20 != 0, Numeric: bits&0x10 != 0, Display: int(bits >> 2 & 3), Modified: bits&1 != 0}
}

// P13.1: the field of each position.
func TestStartAndOf(t *testing.T) {
	each(t, func(l layout, s *space.Space) {
		for _, n := range l.numbers() {
			start, f, ok := -1, attr.Field{}, false
			if i := l.index(l.wrap(n)); i >= 0 {
				start, f, ok = l.at[i], fieldOf(l.bits[i]), true
			}
			if got := field.Start(s, n); got != start {
				t.Fatalf("%d: Start(%d) is %d, want %d", l.at, n, got, start)
			}
			if got, found := field.Of(s, n); got != f || found != ok {
				t.Fatalf("%d: Of(%d) is %v, %v, want %v, %v", l.at, n, got, found, f, ok)
			}
		}
	})
}

// P13.1: the positions of each field, and nothing where there is no attribute.
func TestPlacesLengthAndText(t *testing.T) {
	each(t, func(l layout, s *space.Space) {
		for _, n := range l.numbers() {
			var want []int
			var text []byte
			if i := l.index(l.wrap(n)); i >= 0 && l.at[i] == l.wrap(n) {
				want = l.places(i)
			}
			for _, p := range want {
				text = append(text, code(p))
			}
			if got := slices.Collect(field.Places(s, n)); !slices.Equal(got, want) {
				t.Fatalf("%d: Places(%d) yields %d, want %d", l.at, n, got, want)
			}
			if got := field.Length(s, n); got != len(want) {
				t.Fatalf("%d: Length(%d) is %d, want %d", l.at, n, got, len(want))
			}
			if got := field.Text(s, n); !bytes.Equal(got, text) {
				t.Fatalf("%d: Text(%d) is %x, want %x", l.at, n, got, text)
			}
		}
	})
}

// P13.1: all fields in order, with their attributes.
func TestFields(t *testing.T) {
	each(t, func(l layout, s *space.Space) {
		i := 0
		for n, f := range field.Fields(s) {
			if i == len(l.at) || n != l.at[i] || f != fieldOf(l.bits[i]) {
				t.Fatalf("%d: Fields yields %d, %v after %d", l.at, n, f, i)
			}
			i++
		}
		if i != len(l.at) {
			t.Errorf("%d: Fields yields %d", l.at, i)
		}
	})
}

// P13.1: each of the field attributes that there are.
func TestFieldsOfEachAttribute(t *testing.T) {
	s, _ := space.New(2)
	for b := range 256 {
		s.Set(80, api.Cell{Attr: true, FA: byte(b)})
		want := fieldOf(byte(b))
		for n, f := range field.Fields(s) {
			if n != 80 || f != want {
				t.Errorf("%x: Fields yields %d, %v, want %v", b, n, f, want)
			}
		}
		if f, ok := field.Of(s, 79); f != want || !ok {
			t.Errorf("%x: Of is %v, %v, want %v", b, f, ok, want)
		}
	}
}

// P13.3: the number of unprotected positions.
func TestUnprotected(t *testing.T) {
	each(t, func(l layout, s *space.Space) {
		want := 0
		for i := range l.at {
			if !l.protected(i) {
				want += len(l.places(i))
			}
		}
		if got := field.Unprotected(s); got != want {
			t.Errorf("%d: Unprotected is %d, want %d", l.at, got, want)
		}
	})
}

// The chapter's example, and P13.3 for it.
func TestExample(t *testing.T) {
	s := make24(2, 0x20, 5, 0).screen(t)
	if field.Start(s, 1) != 5 || field.Next(s, 0) != 6 || field.Length(s, 5) != 1916 || field.Unprotected(s) != 1916 {
		t.Errorf("%d, %d, %d, %d", field.Start(s, 1), field.Next(s, 0), field.Length(s, 5), field.Unprotected(s))
	}
}

// P13.1: a field around the screen, with its codes in the order of its positions.
func TestTextAroundTheScreen(t *testing.T) {
	s, _ := space.New(2)
	s.Set(1917, api.Cell{Attr: true})
	s.Set(2, api.Cell{Attr: true, FA: 0x20})
	for i, n := range []int{1918, 1919, 0, 1} {
		s.Put(n, byte(0xc1+i))
	}
	s.Put(0, 0)
	if got := field.Text(s, 1917); string(got) != "\xc1\xc2\x00\xc4" {
		t.Errorf("Text is %x", got)
	}
	if got := slices.Collect(field.Places(s, 1917)); !slices.Equal(got, []int{1918, 1919, 0, 1}) {
		t.Errorf("Places yields %d", got)
	}
	if field.Start(s, 1) != 1917 || field.Start(s, 0) != 1917 || field.Start(s, 1919) != 1917 {
		t.Errorf("Start is %d, %d, %d", field.Start(s, 1), field.Start(s, 0), field.Start(s, 1919))
	}
}

// P13.1 to P13.3: a nil space has no fields.
func TestNil(t *testing.T) {
	for _, n := range []int{0, 1, 5, -1, 1919, 1920, math.MaxInt, math.MinInt} {
		if f, ok := field.Of(nil, n); ok || f != (attr.Field{}) || field.Start(nil, n) != -1 {
			t.Errorf("Of(%d) is %v, %v, Start is %d", n, f, ok, field.Start(nil, n))
		}
		if l, p := slices.Collect(field.Places(nil, n)), field.Text(nil, n); len(l) != 0 || len(p) != 0 || field.Length(nil, n) != 0 {
			t.Errorf("%d: %d, %x, %d", n, l, p, field.Length(nil, n))
		}
		if field.Next(nil, n) != -1 || field.Prev(nil, n) != -1 || field.Open(nil, n) || field.Modify(nil, n) {
			t.Errorf("%d: %d, %d, %v, %v", n, field.Next(nil, n), field.Prev(nil, n), field.Open(nil, n), field.Modify(nil, n))
		}
	}
	field.Unmodify(nil)
	for n, f := range field.Fields(nil) {
		t.Errorf("Fields yields %d, %v", n, f)
	}
	if l := slices.Collect(field.Modified(nil)); len(l) != 0 || field.Unprotected(nil) != 0 {
		t.Errorf("Modified yields %d, Unprotected is %d", l, field.Unprotected(nil))
	}
}

// The rule of memory: a text is new each time, and is not that of the screen.
func TestMemory(t *testing.T) {
	s := make24(0, 0, 4, 0x20).screen(t)
	before := s.Copy()
	first, second := field.Text(s, 0), field.Text(s, 0)
	for i := range first[:cap(first)] {
		first[:cap(first)][i] = 0x99
	}
	if third := field.Text(s, 0); !bytes.Equal(second, []byte{7, 14, 21}) || !bytes.Equal(third, second) || !s.Same(before) {
		t.Errorf("Text is shared: %x, %x", second, third)
	}
	s.Put(1, 0xc1)
	if !bytes.Equal(second, []byte{7, 14, 21}) {
		t.Errorf("Text became %x", second)
	}
}
