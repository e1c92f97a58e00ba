package field

import (
	"iter"

	"vitrine/space"
)

func Modify(s *space.Space, n int) bool {
	start := Start(s, n)
	if start == none {
		return false
	}
	mark(s, start, true)
	return true
}

func Unmodify(s *space.Space) {
	for n := range s.Attrs() {
		mark(s, n, false)
	}
}

// mark makes the field whose attribute is at n modified, or not modified.
func mark(s *space.Space, n int, modified bool) {
	f := at(s, n)
	f.Modified = modified
	c := s.At(n)
	// The display is one that there is, since it comes from a cell, so that there is no error.
	c.FA, _ = f.Bits()
	s.Set(n, c)
}

func Modified(s *space.Space) iter.Seq[int] {
	return func(yield func(int) bool) {
		for n, f := range Fields(s) {
			if f.Modified && !yield(n) {
				return
			}
		}
	}
}
