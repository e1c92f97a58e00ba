package field_test

import (
	"slices"
	"testing"

	"vitrine/api"
	"vitrine/field"
	"vitrine/space"
)

// modified lists the attributes of a layout that have the bit.
func (l layout) modified() []int {
	var positions []int
	for i, n := range l.at {
		if l.bits[i]&1 != 0 {
			positions = append(positions, n)
		}
	}
	return positions
}

// unmodified is the same layout without the bit.
func (l layout) unmodified() layout {
	o := layout{cells: l.cells, at: l.at, bits: slices.Clone(l.bits)}
	for i := range o.bits {
		o.bits[i] &^= 1
	}
	return o
}

// P13.3: the modified fields in order.
func TestModified(t *testing.T) {
	each(t, func(l layout, s *space.Space) {
		if got := slices.Collect(field.Modified(s)); !slices.Equal(got, l.modified()) {
			t.Errorf("%d, %x: Modified yields %d", l.at, l.bits, got)
		}
	})
}

// P13.3: a field is modified by its attribute and by any of its positions; nothing but the flag changes.
func TestModify(t *testing.T) {
	for _, l := range layouts() {
		l = l.unmodified()
		s := l.screen(t)
		before := s.Copy()
		for _, n := range l.numbers() {
			i := l.index(l.wrap(n))
			if got := field.Modify(s, n); got != (i >= 0) {
				t.Fatalf("%d: Modify(%d) is %v", l.at, n, got)
			}
			var want []int
			if i >= 0 {
				want = []int{l.at[i]}
				if c := s.At(l.at[i]); c != (api.Cell{Attr: true, FA: l.bits[i] | 1, High: 0xf1}) {
					t.Fatalf("%d: Modify(%d) leaves %v", l.at, n, c)
				}
			}
			if got := before.Diff(s); !slices.Equal(got, want) {
				t.Fatalf("%d: Modify(%d) changes %d, want %d", l.at, n, got, want)
			}
			for _, p := range want {
				s.Set(p, before.At(p))
			}
		}
		if !s.Same(before) {
			t.Errorf("%d: Modify moved the cursor", l.at)
		}
	}
}

// P13.3: every field attribute keeps its other bits and its display attributes, marked and marked again.
func TestModifyEachAttribute(t *testing.T) {
	s, _ := space.New(2)
	for b := range 64 {
		bits := byte(b) & 0x3d
		c := api.Cell{Attr: true, FA: bits, High: 0xf1, Color: 0xf2, Set: 0xf1}
		s.Set(80, c)
		for range 2 {
			if c.FA = bits | 1; !field.Modify(s, 3) || s.At(80) != c {
				t.Errorf("%x: Modify leaves %v", b, s.At(80))
			}
		}
		for range 2 {
			field.Unmodify(s)
			if c.FA = bits &^ 1; s.At(80) != c {
				t.Errorf("%x: Unmodify leaves %v", b, s.At(80))
			}
		}
	}
}

// P13.3: all fields are unmodified, protected ones too; nothing but the flags changes.
func TestUnmodify(t *testing.T) {
	for _, l := range layouts() {
		s := l.screen(t)
		s.Place(9)
		want := l.unmodified().screen(t)
		want.Place(9)
		for range 2 {
			field.Unmodify(s)
			if got := slices.Collect(field.Modified(s)); len(got) != 0 || !s.Same(want) {
				t.Errorf("%d: Modified yields %d, the screen differs at %d", l.at, got, want.Diff(s))
			}
		}
	}
}

// P13.3: fields that are modified one after the other, in any order, are listed by their positions.
func TestModifyInOrder(t *testing.T) {
	s := make24(3, 0, 5, 0x20, 900, 0, 1919, 0x10).screen(t)
	for _, c := range []struct {
		n    int
		want []int
	}{
		{1000, []int{900}},
		{2, []int{900, 1919}},
		{5, []int{5, 900, 1919}},
		{899, []int{5, 900, 1919}},
		{4, []int{3, 5, 900, 1919}},
	} {
		if !field.Modify(s, c.n) {
			t.Errorf("Modify(%d) is false", c.n)
		}
		if got := slices.Collect(field.Modified(s)); !slices.Equal(got, c.want) {
			t.Errorf("after Modify(%d): %d, want %d", c.n, got, c.want)
		}
	}
}

// P13.3: a space without attributes has nothing to modify.
func TestModifyUnformatted(t *testing.T) {
	s, _ := space.New(2)
	s.Put(4, 0xc1)
	before := s.Copy()
	field.Unmodify(s)
	if field.Modify(s, 4) || !s.Same(before) {
		t.Error("a field was modified where there is none")
	}
}
