package snap

import (
	"strconv"

	"vitrine/attr"
	"vitrine/field"
	"vitrine/keys"
	"vitrine/page"
	"vitrine/space"
	"vitrine/term"
)

// locks are the words for the keyboard's locks, by their numbers.
var locks = [...]string{"free", "wait", "protected", "numeric", "overflow"}

func Fields(s *space.Space, p *page.Page) []string {
	p = known(p)
	var l []string
	for start, f := range field.Fields(s) {
		inside := signs(s, p, start+1, field.Length(s, start))
		l = append(l, place(s, start)+" "+kind(f)+" "+trimmed(inside))
	}
	return l
}

func place(s *space.Space, n int) string {
	size := s.Size()
	return strconv.Itoa(size.Row(n)) + " " + strconv.Itoa(size.Col(n))
}

func kind(f attr.Field) string {
	return choose(f.Protected, "P ", "U ") + choose(f.Numeric, "N ", "A ") + strconv.Itoa(f.Display) + choose(f.Modified, " M", " -")
}

// Status leaves nothing out for an AID without a name: its name is the empty text.
func Status(t term.State) string {
	return lockWord(t.Lock) + choose(t.Inserts, " ins ", " ") + keys.Name(t.AID) + " " + strconv.Itoa(t.Cursor)
}

func lockWord(lock int) string {
	if lock < 0 || lock >= len(locks) {
		return "?"
	}
	return locks[lock]
}
