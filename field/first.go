package field

import "vitrine/space"

func Next(s *space.Space, n int) int {
	return seek(s, n, 1)
}

func Prev(s *space.Space, n int) int {
	return seek(s, n, -1)
}

// seek goes around the screen by a step of 1 or -1, until it reaches the first position of an unprotected field; it reaches n itself last.
func seek(s *space.Space, n, step int) int {
	size := s.Size()
	n = size.Wrap(n)
	for range size.Cells() {
		n += step
		if first(s, n) {
			return size.Wrap(n)
		}
	}
	return none
}

// first reports whether n is the first position of an unprotected field.
func first(s *space.Space, n int) bool {
	return s.At(n-1).Attr && !at(s, n-1).Protected && !s.At(n).Attr
}

func Open(s *space.Space, n int) bool {
	if s == nil || s.At(n).Attr {
		return false
	}
	// A screen without fields has a zero attribute here, which is not protected.
	f, _ := Of(s, n)
	return !f.Protected
}
