package field_test

import (
	"iter"
	"slices"
	"testing"

	"vitrine/api"
	"vitrine/attr"
	"vitrine/field"
	"vitrine/space"
)

// starts yields the positions of Fields alone.
func starts(s *space.Space) iter.Seq[int] {
	return func(yield func(int) bool) {
		for n := range field.Fields(s) {
			if !yield(n) {
				return
			}
		}
	}
}

// few is a screen of four fields, of which two are modified.
func few(t *testing.T) *space.Space {
	t.Helper()
	return make24(0, 0x01, 4, 0x20, 9, 0x31, 1915, 0x00).screen(t)
}

// The rule of iterators: the same each time, and nothing more when the consumer stops.
func TestIteratorsStopped(t *testing.T) {
	s := few(t)
	for name, c := range map[string]struct {
		seq  iter.Seq[int]
		want []int
	}{
		"Places":   {field.Places(s, 0), []int{1, 2, 3}},
		"around":   {field.Places(s, 1915), []int{1916, 1917, 1918, 1919}},
		"Fields":   {starts(s), []int{0, 4, 9, 1915}},
		"Modified": {field.Modified(s), []int{0, 9}},
	} {
		for range 2 {
			if got := slices.Collect(c.seq); !slices.Equal(got, c.want) {
				t.Errorf("%s yields %d, want %d", name, got, c.want)
			}
		}
		for most := 1; most <= len(c.want); most++ {
			var got []int
			for n := range c.seq {
				if got = append(got, n); len(got) == most {
					break
				}
			}
			if !slices.Equal(got, c.want[:most]) {
				t.Errorf("%s: the first %d are %d, want %d", name, most, got, c.want[:most])
			}
		}
	}
}

// A screen is used in its state at the time of use: what changes before the first element counts.
func TestIteratorsAfterChanges(t *testing.T) {
	s := few(t)
	places, nowhere, fields, modified := field.Places(s, 0), field.Places(s, 5), starts(s), field.Modified(s)
	last := field.Places(s, -1)
	s.Clear(true)
	for _, n := range []int{0, 5, 7, 3563} {
		s.Set(n, api.Cell{Attr: true, FA: byte(n & 1)})
	}
	s.Set(7, api.Cell{Attr: true, FA: 0x20})
	s.Set(1, api.Cell{Attr: true, FA: 0x20})
	for name, c := range map[string]struct {
		seq  iter.Seq[int]
		want []int
	}{
		"Places of 0":  {places, nil},
		"Places of 5":  {nowhere, []int{6}},
		"Places of -1": {last, nil},
		"Fields":       {fields, []int{0, 1, 5, 7, 3563}},
		"Modified":     {modified, []int{5, 3563}},
	} {
		if got := slices.Collect(c.seq); !slices.Equal(got, c.want) {
			t.Errorf("%s yields %d, want %d", name, got, c.want)
		}
	}
}

// The same between two elements: attributes that are set, changed and removed.
func TestFieldsWhileCellsChange(t *testing.T) {
	s := few(t)
	var at []int
	var fields []attr.Field
	for n, f := range field.Fields(s) {
		at = append(at, n)
		fields = append(fields, f)
		if n == 0 {
			s.Set(0, api.Cell{Attr: true, FA: 0x3c})
			s.Set(4, api.Cell{Attr: true, FA: 0x10})
			s.Set(9, api.Cell{})
			s.Set(8, api.Cell{Attr: true, FA: 0x0c})
		}
	}
	want := []attr.Field{{Modified: true}, {Numeric: true}, {Display: 3}, {}}
	if !slices.Equal(at, []int{0, 4, 8, 1915}) || !slices.Equal(fields, want) {
		t.Errorf("Fields yields %d, %v", at, fields)
	}
}

func TestModifiedWhileFieldsChange(t *testing.T) {
	s := few(t)
	var got []int
	for n := range field.Modified(s) {
		if got = append(got, n); n == 0 {
			field.Unmodify(s)
			field.Modify(s, 5)
			field.Modify(s, 1919)
		}
	}
	if !slices.Equal(got, []int{0, 4, 1915}) {
		t.Errorf("Modified yields %d", got)
	}
	field.Modify(s, 0)
	got = nil
	for n := range field.Modified(s) {
		got = append(got, n)
		field.Unmodify(s)
	}
	if !slices.Equal(got, []int{0}) {
		t.Errorf("Modified yields %d after Unmodify", got)
	}
}

func TestPlacesWhileCellsChange(t *testing.T) {
	for name, c := range map[string]struct {
		change func(s *space.Space)
		want   []int
	}{
		"an attribute ahead":       {func(s *space.Space) { s.Set(12, api.Cell{Attr: true}) }, []int{10, 11}},
		"an attribute next":        {func(s *space.Space) { s.Set(11, api.Cell{Attr: true}) }, []int{10}},
		"an attribute there":       {func(s *space.Space) { s.Set(10, api.Cell{Attr: true}) }, []int{10, 11, 12}},
		"the end removed":          {func(s *space.Space) { s.Set(13, api.Cell{}) }, []int{10, 11, 12, 13, 14}},
		"the attribute removed":    {func(s *space.Space) { s.Set(9, api.Cell{}) }, []int{10}},
		"cleared":                  {func(s *space.Space) { s.Clear(false) }, []int{10}},
		"cleared to another size":  {func(s *space.Space) { s.Clear(true) }, []int{10}},
		"characters":               {func(s *space.Space) { s.Put(11, 0xc1) }, []int{10, 11, 12}},
		"the attribute's contents": {func(s *space.Space) { s.Set(9, api.Cell{Attr: true, FA: 0x3c}) }, []int{10, 11, 12}},
	} {
		s := make24(9, 0, 13, 0, 15, 0).screen(t)
		var got []int
		for n := range field.Places(s, 9) {
			if got = append(got, n); n == 10 {
				c.change(s)
			}
		}
		if !slices.Equal(got, c.want) {
			t.Errorf("%s: %d, want %d", name, got, c.want)
		}
	}
}

// P1: a consumer that changes the size, so that the attribute of position -1 is never reached, comes to an end, and gets positions of the screen alone.
func TestPlacesWhileTheSizeChanges(t *testing.T) {
	s := make24(1919, 0).screen(t)
	steps := 0
	for n := range field.Places(s, -1) {
		if n < 0 || n >= s.Size().Cells() || steps > api.MaxCells {
			t.Fatalf("%d after %d steps", n, steps)
		}
		s.Clear(n == 1918)
		s.Set(-1, api.Cell{Attr: true})
		steps++
	}
}
