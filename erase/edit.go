package erase

import (
	"iter"

	"vitrine/field"
	"vitrine/space"
)

// Row asks for the screen anew at each step, since the consumer may change it, also to another size.
func Row(s *space.Space, n int) iter.Seq[int] {
	return func(yield func(int) bool) {
		row := s.Size().Row(n)
		for p := s.Size().Wrap(n); inRow(s, p, row) && yield(p); p++ {
		}
	}
}

// inRow reports whether n is a position of that row without an attribute.
func inRow(s *space.Space, n, row int) bool {
	size := s.Size()
	return n < size.Cells() && size.Row(n) == row && !s.At(n).Attr
}

func End(s *space.Space, n int) bool {
	if !field.Open(s, n) {
		return false
	}
	// A field's end is an attribute, wherever it is; without fields, the end is that of the screen.
	to := n
	if !s.Formatted() {
		to = 0
	}
	for p := range ahead(s, n, to) {
		s.Put(p, null)
	}
	field.Modify(s, n)
	return true
}

// ahead yields the positions from from up to to, around the screen, that are ahead of the first attribute.
func ahead(s *space.Space, from, to int) iter.Seq[int] {
	return func(yield func(int) bool) {
		for n := range s.Size().Span(from, to) {
			if s.At(n).Attr || !yield(n) {
				return
			}
		}
	}
}

func Delete(s *space.Space, n int) bool {
	if !field.Open(s, n) {
		return false
	}
	last := n
	for p := range Row(s, n) {
		s.Put(last, s.At(p).Char)
		last = p
	}
	s.Put(last, null)
	field.Modify(s, n)
	return true
}

func Insert(s *space.Space, n int, c byte) bool {
	if !field.Open(s, n) {
		return false
	}
	room := upToNull(s, n)
	if len(room) == 0 {
		return false
	}
	for _, p := range room {
		moved := s.At(p).Char
		s.Put(p, c)
		c = moved
	}
	field.Modify(s, n)
	return true
}

// upToNull lists the positions of n's field from n up to the first null one, which is listed too; nothing if there is none.
func upToNull(s *space.Space, n int) []int {
	var positions []int
	for p := range ahead(s, n, n) {
		positions = append(positions, p)
		if s.At(p).Char == null {
			return positions
		}
	}
	return nil
}
