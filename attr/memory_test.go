package attr_test

import (
	"bytes"
	"slices"
	"testing"

	"vitrine/api"
	"vitrine/attr"
)

// overwrite fills a slice and its spare capacity.
func overwrite[T any](l []T, value T) {
	whole := l[:cap(l)]
	for i := range whole {
		whole[i] = value
	}
}

// The rule of memory: arguments are not changed, including their spare capacity, and not kept.
func TestArguments(t *testing.T) {
	room := []byte{1, 0x41, 0xf1, 0x99}
	l, _, _ := attr.Parse(room[:3])
	if !bytes.Equal(room, []byte{1, 0x41, 0xf1, 0x99}) {
		t.Errorf("the argument of Parse became %x", room)
	}
	overwrite(room, 0)
	if !slices.Equal(l, []attr.Pair{{Type: 0x41, Value: 0xf1}}) {
		t.Errorf("Parse became %02x", l)
	}
	pairs := []attr.Pair{{Type: 0x41, Value: 0xf1}, {Type: 0x99}}
	p, _ := attr.Bytes(pairs[:1])
	if !slices.Equal(pairs, []attr.Pair{{Type: 0x41, Value: 0xf1}, {Type: 0x99}}) {
		t.Errorf("the argument of Bytes became %02x", pairs)
	}
	overwrite(pairs, attr.Pair{})
	if !bytes.Equal(p, []byte{1, 0x41, 0xf1}) {
		t.Errorf("Bytes became %x", p)
	}
}

// The rule of memory, and P2: results are new memory, so that a caller cannot change later ones.
func TestResults(t *testing.T) {
	cell := api.Cell{Attr: true, FA: 0x20, High: 0xf1}
	calls := map[string]func() []attr.Pair{
		"Pairs": func() []attr.Pair { return attr.Pairs(cell) },
		"Diff":  func() []attr.Pair { return attr.Diff(api.Cell{}, cell) },
		"Parse": func() []attr.Pair {
			l, _, _ := attr.Parse([]byte{1, 0x41, 0xf1})
			return l
		},
	}
	for name, call := range calls {
		first, second := call(), call()
		want := slices.Clone(second)
		overwrite(first, attr.Pair{Type: 0x99})
		if third := call(); !slices.Equal(second, want) || !slices.Equal(third, want) {
			t.Errorf("%s is shared: %02x, %02x", name, second, third)
		}
	}
	first, _ := attr.Bytes([]attr.Pair{{}})
	second, _ := attr.Bytes([]attr.Pair{{}})
	overwrite(first, 0x99)
	if !bytes.Equal(second, []byte{1, 0, 0}) {
		t.Errorf("Bytes is shared: %x", second)
	}
}
