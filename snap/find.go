package snap

import (
	"vitrine/page"
	"vitrine/space"
)

func Diff(a, b *space.Space, p *page.Page) []Row {
	if a == nil || b == nil {
		return nil
	}
	p = known(p)
	var l []Row
	for n, text := range Lines(b, p) {
		if a.Size() != b.Size() || Line(a, p, n) != text {
			l = append(l, Row{N: n, Text: text})
		}
	}
	return l
}

// Find goes around the screen as often as the text is longer than it.
func Find(s *space.Space, p *page.Page, text string) int {
	all := signs(s, p, 0, s.Size().Cells())
next:
	for n := range all {
		at := n
		for _, sign := range text {
			if all[at%len(all)] != sign {
				continue next
			}
			at++
		}
		return n
	}
	return -1
}
