package erase_test

import (
	"slices"
	"testing"

	"vitrine/api"
	"vitrine/erase"
	"vitrine/field"
	"vitrine/space"
)

// eachEdit runs an edit at the positions of each sample, and compares the screen with what the edit makes of the sample, which stays as it is where the edit is false.
func eachEdit(t *testing.T, name string, edit func(s *space.Space, n int) bool, on func(c sample, n int) bool) {
	t.Helper()
	each(t, func(c sample) {
		starts, unprotected := c.starts(), c.unprotected()
		for _, n := range c.numbers() {
			s, want, p := c.screen(t), slices.Clone(c), c.wrap(n)
			done := unprotected[p] && !c[p].Attr && on(want, p)
			if got := edit(s, n); got != done {
				t.Fatalf("attributes at %d: %s(%d) is %v", c.attrs(), name, n, got)
			}
			if done && starts[p] >= 0 {
				want[starts[p]].FA |= 1
			}
			want.check(t, s, 1234, name, n)
		}
	})
}

// P14.2: from the position to the end of its field, around the screen; without fields, to the end of the screen.
func TestEnd(t *testing.T) {
	eachEdit(t, "End", erase.End, func(c sample, n int) bool {
		positions := c.rest(n)
		if len(c.attrs()) == 0 {
			positions = positions[:len(c)-n]
		}
		c.put(positions, make([]byte, len(positions)))
		return true
	})
}

// P14.2: one character less in the row, up to an attribute or to the edge.
func TestDelete(t *testing.T) {
	eachEdit(t, "Delete", erase.Delete, func(c sample, n int) bool {
		positions := c.row(n)
		c.put(positions, append(c.codes(positions)[1:], 0))
		return true
	})
}

// P14.2: one character more in the field, at the first null's expense; without one, nothing.
func TestInsert(t *testing.T) {
	for _, code := range []byte{0xfe, 0} {
		insert := func(s *space.Space, n int) bool { return erase.Insert(s, n, code) }
		eachEdit(t, "Insert", insert, func(c sample, n int) bool {
			positions := c.rest(n)
			codes := c.codes(positions)
			null := slices.Index(codes, 0)
			if null < 0 {
				return false
			}
			copy(codes[1:], codes[:null])
			codes[0] = code
			c.put(positions, codes)
			return true
		})
	}
}

// edited is a small screen for fixed answers: an unprotected field of abcd around the screen, one of efgh from 9 to 12, one of a row and more that is full but for its end, and protected ones between them.
func edited(t *testing.T) *space.Space {
	t.Helper()
	s, e := space.New(2)
	if e != api.OK {
		t.Fatal(e)
	}
	for n, bits := range map[int]byte{1917: 0, 2: 0x30, 8: 0x10, 13: 0x20, 150: 0x04, 330: 0x20} {
		s.Set(n, api.Cell{Attr: true, FA: bits})
	}
	for i, n := range []int{1918, 1919, 0, 1, 9, 10, 11, 12} {
		s.Put(n, byte('a'+i))
	}
	for n := 151; n < 328; n++ {
		s.Put(n, 'x')
	}
	s.Put(5, 'p')
	return s
}

// fieldIs compares a field's text, and asks whether it is the only one that is modified.
func fieldIs(t *testing.T, s *space.Space, start int, want string) {
	t.Helper()
	if got := string(field.Text(s, start)); got != want {
		t.Errorf("the field at %d is %q, want %q", start, got, want)
	}
	if l := slices.Collect(field.Modified(s)); !slices.Equal(l, []int{start}) {
		t.Errorf("the modified fields are %d, want %d", l, start)
	}
}

// P14.2 with fixed answers.
func TestEndExamples(t *testing.T) {
	for _, c := range []struct {
		n, start int
		want     string
	}{
		{1918, 1917, "\x00\x00\x00\x00"}, {1919, 1917, "a\x00\x00\x00"}, {0, 1917, "ab\x00\x00"}, {1, 1917, "abc\x00"}, {-2, 1917, "\x00\x00\x00\x00"},
		{9, 8, "\x00\x00\x00\x00"}, {11, 8, "ef\x00\x00"}, {12, 8, "efg\x00"}, {1920 + 12, 8, "efg\x00"},
	} {
		s := edited(t)
		if !erase.End(s, c.n) {
			t.Errorf("End(%d) is false", c.n)
		}
		fieldIs(t, s, c.start, c.want)
	}
}

func TestDeleteExamples(t *testing.T) {
	for _, c := range []struct {
		n, start int
		want     string
	}{
		{1918, 1917, "b\x00cd"}, {1919, 1917, "a\x00cd"}, {0, 1917, "abd\x00"}, {1, 1917, "abc\x00"},
		{9, 8, "fgh\x00"}, {10, 8, "egh\x00"}, {12, 8, "efg\x00"}, {12 - 1920, 8, "efg\x00"},
	} {
		s := edited(t)
		if !erase.Delete(s, c.n) {
			t.Errorf("Delete(%d) is false", c.n)
		}
		fieldIs(t, s, c.start, c.want)
	}
}

// Of a field of several rows only the row of the position moves.
func TestDeleteInRows(t *testing.T) {
	for n, null := range map[int]int{151: 159, 159: 159, 160: 239, 200: 239, 240: 319, 319: 319, 320: 327} {
		s := edited(t)
		s.Put(null, 'y')
		before := s.Copy()
		if !erase.Delete(s, n) || s.At(null).Char != 0 {
			t.Errorf("Delete(%d) leaves %x at %d", n, s.At(null).Char, null)
		}
		want := []int{150, null}
		if null > n {
			want = []int{150, null - 1, null}
		}
		if got := before.Diff(s); !slices.Equal(got, want) {
			t.Errorf("Delete(%d) changes %d, want %d", n, got, want)
		}
	}
}

func TestInsertExamples(t *testing.T) {
	for _, c := range []struct {
		nulled   []int
		n, start int
		want     string
	}{
		{[]int{1}, 1918, 1917, "*abc"}, {[]int{1}, 0, 1917, "ab*c"}, {[]int{1}, 1, 1917, "abc*"}, {[]int{0}, -1, 1917, "a*bd"},
		{[]int{0, 1}, 1919, 1917, "a*b\x00"}, {[]int{1918}, 1918, 1917, "*bcd"}, {[]int{1918, 1919}, 1918, 1917, "*\x00cd"},
		{[]int{12}, 9, 8, "*efg"}, {[]int{10}, 9, 8, "*egh"}, {[]int{10, 11}, 10, 8, "e*\x00h"}, {[]int{9, 10, 11, 12}, 11, 8, "\x00\x00*\x00"},
	} {
		s := edited(t)
		for _, n := range c.nulled {
			s.Put(n, 0)
		}
		if !erase.Insert(s, c.n, '*') {
			t.Errorf("Insert(%d) with nulls at %d is false", c.n, c.nulled)
		}
		fieldIs(t, s, c.start, c.want)
	}
}

// Unlike Delete, Insert moves characters from row to row.
func TestInsertInRows(t *testing.T) {
	s := edited(t)
	for range 2 {
		if !erase.Insert(s, 155, 'y') {
			t.Error("there is no room")
		}
	}
	if erase.Insert(s, 155, 'z') {
		t.Error("there is room for a third character")
	}
	for n := 151; n < 330; n++ {
		want := byte('x')
		if n == 155 || n == 156 {
			want = 'y'
		}
		if s.At(n).Char != want {
			t.Errorf("at %d is %x, want %x", n, s.At(n).Char, want)
		}
	}
}

// P14.2: a null ahead of the position, in another field, or at the attribute itself is no room.
func TestInsertWithoutRoom(t *testing.T) {
	s := edited(t)
	s.Put(1918, 0)
	s.Put(9, 0)
	before := s.Copy()
	for _, n := range []int{1919, 0, 1, 10, 11, 12} {
		if erase.Insert(s, n, '*') || !s.Same(before) {
			t.Errorf("Insert(%d) changes %d", n, before.Diff(s))
		}
	}
}

// P14.2: where nothing may be written, nothing is changed.
func TestEditsOfProtected(t *testing.T) {
	s := edited(t)
	before := s.Copy()
	for _, n := range []int{2, 3, 5, 7, 8, 13, 14, 149, 150, 330, 1916, 1917, -3, 1920 + 5} {
		if erase.End(s, n) || erase.Delete(s, n) || erase.Insert(s, n, '*') || !s.Same(before) {
			t.Errorf("%d: an edit changes %d", n, before.Diff(s))
		}
	}
}

// P14.2: without fields, End goes to the end of the screen, Delete to that of the row, and Insert around the screen.
func TestEditsWithoutFields(t *testing.T) {
	full := lay(narrow, func(int) byte { return 'x' })
	for _, c := range []struct {
		name string
		edit func(s *space.Space) bool
		want map[int]byte
	}{
		{"End", func(s *space.Space) bool { return erase.End(s, 1917) }, map[int]byte{1917: 0, 1918: 0, 1919: 0}},
		{"Delete", func(s *space.Space) bool { return erase.Delete(s, 80) }, map[int]byte{80: 'b', 81: 'x', 159: 0}},
		{"Delete at the edge", func(s *space.Space) bool { return erase.Delete(s, 1919) }, map[int]byte{1919: 0}},
		{"Insert", func(s *space.Space) bool { return erase.Insert(s, 1918, '*') }, map[int]byte{1918: '*', 1919: 'x', 0: 'x', 1: 'x', 2: 'a'}},
		{"Insert at once", func(s *space.Space) bool { return erase.Insert(s, 2, '*') }, map[int]byte{2: '*'}},
		{"Insert around", func(s *space.Space) bool { return erase.Insert(s, 3, '*') }, map[int]byte{3: '*', 1: 'x', 2: 'a', 81: 'x', 82: 'b'}},
	} {
		s, want := full.screen(t), slices.Clone(full)
		for n, code := range map[int]byte{1: 'a', 2: 0, 81: 'b'} {
			s.Put(n, code)
			want[n].Char = code
		}
		for n, code := range c.want {
			want[n].Char = code
		}
		if !c.edit(s) {
			t.Errorf("%s is false", c.name)
		}
		want.check(t, s, 1234, c.name)
	}
	s := full.screen(t)
	if erase.Insert(s, 5, '*') {
		t.Error("Insert finds room in a full screen")
	}
	full.check(t, s, 1234, "a full screen")
}

// The chapter's example.
func TestExample(t *testing.T) {
	s, _ := space.New(2)
	s.Set(4, api.Cell{Attr: true})
	s.Set(8, api.Cell{Attr: true, FA: 0x20})
	s.Put(5, 'a')
	s.Put(6, 'b')
	if !erase.Insert(s, 5, 'x') {
		t.Error("Insert is false")
	}
	fieldIs(t, s, 4, "xab")
	field.Unmodify(s)
	if !erase.Delete(s, 5) {
		t.Error("Delete is false")
	}
	fieldIs(t, s, 4, "ab\x00")
}
