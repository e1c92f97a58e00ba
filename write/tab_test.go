package write_test

import (
	"strconv"
	"testing"

	"vitrine/api"
	"vitrine/space"
)

// unwritten are orders that write no character, behind which PT nulls nothing; the buffer address stays, or is 10 to 12 then.
func unwritten() []string {
	return []string{
		"\x05\x11" + to(10), "\x11" + to(10), "\x11" + to(10) + "\x12" + to(11), "\x13", "\x28\x42\xf2", "\x28\x00\x00",
		"\x11" + to(9) + "\x1d\x40", "\x11" + to(9) + "\x29\x00", "\x11" + to(9) + "\x2c\x00", "\x11" + to(10) + "\x3c" + to(11) + "\xc1", "\x11" + to(10) + "\x3c" + to(12) + "\x08\xc4",
	}
}

// tabbed is a screen with a field at 9 that is written from 10 on, an attribute at 14, and further fields.
func tabbed(t *testing.T) *space.Space {
	t.Helper()
	s := empty(t, map[int]api.Cell{9: field(0), 14: field(0x20), 15: char(0xd1), 30: field(0), 31: char(0xd2), 1900: field(0x30), 1901: char(0xd3)})
	for n := 10; n < 14; n++ {
		s.Set(n, api.Cell{Char: 0xc1 + byte(n), High: 0xf1, Color: 0xf2, Set: 0xf1})
	}
	return s
}

// P17.2: behind a text and behind GE the rest of the field is nulled: the characters alone, up to the next attribute.
func TestTabBehindCharacters(t *testing.T) {
	for text, length := range map[string]int{"\x81": 1, "\x81\x82": 2, "\x08\xc5": 1, "\x81\x08\xc5": 2, "\x08\xc5\x81": 2, "\x81\x82\x83\x84": 4} {
		s, want := tabbed(t), tabbed(t)
		writeFrom(t, want, text, 10)
		for n := 10 + length; n < 14; n++ {
			want.Set(n, api.Cell{High: 0xf1, Color: 0xf2, Set: 0xf1})
		}
		writeFrom(t, s, text+"\x05", 10)
		checkScreen(t, strconv.Quote(text), s, want)
		want.Put(31, 0x99)
		writeFrom(t, s, text+"\x05\x99", 10)
		checkScreen(t, "where the next field begins", s, want)
	}
}

// writeFrom writes from n on, for what that makes of the cells.
func writeFrom(t *testing.T, s *space.Space, p string, n int) {
	t.Helper()
	s.Place(n)
	runWell(t, s, "\xf1\x00"+p)
	s.Place(0)
}

// P17.2: behind any other order, and as the first one, nothing is nulled.
func TestTabBehindOthers(t *testing.T) {
	for _, p := range append(unwritten(), "") {
		s, want := tabbed(t), tabbed(t)
		if len(p) > 0 {
			writeFrom(t, want, p, 10)
		}
		writeFrom(t, s, p+"\x05", 10)
		checkScreen(t, strconv.Quote(p), s, want)
		writeFrom(t, s, p+"\x05\x99", 10)
		if l := s.Diff(want); len(l) != 1 || l[0] != 31 || s.At(31).Char != 0x99 {
			t.Errorf("%x: PT goes elsewhere: there are changes at %d", p, l)
		}
	}
}

// P17.2: behind a text and another order nothing is nulled, either; nor behind a text of the record before, or behind the first of two tabs.
func TestTabBehindTextAndOther(t *testing.T) {
	for _, p := range unwritten() {
		s, want := tabbed(t), tabbed(t)
		writeFrom(t, want, "\x81"+p, 11)
		writeFrom(t, s, "\x81"+p+"\x05", 11)
		checkScreen(t, strconv.Quote(p), s, want)
	}
	s, want := tabbed(t), tabbed(t)
	s.Place(10)
	runWell(t, s, "\xf1\x00\x81")
	runWell(t, s, "\xf1\x00\x05")
	want.Place(10)
	want.Set(10, char(0x81))
	checkScreen(t, "the next record", s, want)
	s, want = tabbed(t), tabbed(t)
	checkOrders(t, s, "\x81\x05\x05", 13, 0, 3, api.OK)
	want.Set(13, char(0x81))
	checkScreen(t, "two tabs", s, want)
}

// P17.2: in a protected field, too, what is behind a text is nulled.
func TestTabInProtectedField(t *testing.T) {
	s := empty(t, map[int]api.Cell{0: field(0x20), 3: char(0xc3), 4: char(0xc4), 9: field(0x30), 10: char(0xc5)})
	checkOrders(t, s, "\xc1\x05", 2, 0, 2, api.OK)
	checkScreen(t, "protected", s, empty(t, map[int]api.Cell{0: field(0x20), 2: char(0xc1), 9: field(0x30), 10: char(0xc5)}))
}

// P17.2: no field, none behind n, and a text that ends where the screen does, behind which all is nulled from 0 on, the text too.
func TestTabToTheEnd(t *testing.T) {
	eachScreen(t, func(base *space.Space) {
		cells := base.Size().Cells()
		s := filled(t, base.Model(), base.Alternate())
		want := s.Copy()
		want.Set(700, char(0x99))
		for n := 701; n < cells; n++ {
			want.Put(n, 0)
		}
		checkOrders(t, s, "\x99\x05", 700, 0, 2, api.OK)
		checkScreen(t, "not formatted", s, want)
		for _, n := range edges(s) {
			checkOrders(t, s, "\x05", n, 0, 1, api.OK)
		}
		checkScreen(t, "not formatted, behind nothing", s, want)
		s = filled(t, base.Model(), base.Alternate())
		want = s.Copy()
		for n := range cells {
			want.Put(n, 0)
		}
		want.Set(cells-1, api.Cell{})
		checkOrders(t, s, "\x99\x05", cells-1, 0, 2, api.OK)
		checkScreen(t, "around the end", s, want)
		s = filled(t, base.Model(), base.Alternate())
		s.Set(3, field(0x30))
		want = s.Copy()
		for n := range 3 {
			want.Put(n, 0)
		}
		want.Set(cells-1, api.Cell{Char: 0x99, Set: 0xf1})
		checkOrders(t, s, "\x08\x99\x05", cells-1, 0, 2, api.OK)
		checkScreen(t, "around the end, to an attribute", s, want)
	})
}

// P17.2: from the buffer address to the smallest first position behind it; from the last one, and without any, to 0.
func TestTabGoes(t *testing.T) {
	for _, c := range []struct {
		cells map[int]api.Cell
		goes  map[int]int
	}{
		{nil, map[int]int{0: 0, 5: 0, 1919: 0}},
		{map[int]api.Cell{0: field(0x20), 700: field(0x3d)}, map[int]int{0: 0, 5: 0, 700: 0, 1919: 0}},
		{map[int]api.Cell{5: field(0), 20: field(0x20), 700: field(0x1d)}, map[int]int{0: 6, 5: 6, 6: 701, 7: 701, 20: 701, 699: 701, 700: 701, 701: 0, 702: 0, 1919: 0}},
		{map[int]api.Cell{0: field(0), 1: field(0), 2: field(0)}, map[int]int{0: 3, 1: 3, 2: 3, 3: 0, 4: 0}},
		{map[int]api.Cell{1919: field(0), 9: field(0x20)}, map[int]int{0: 0, 5: 0, 1918: 0, 1919: 0}},
		{map[int]api.Cell{1918: field(0), 9: field(0x20)}, map[int]int{0: 1919, 1917: 1919, 1918: 1919, 1919: 0}},
		{map[int]api.Cell{1918: field(0), 1919: field(0), 0: field(0x20)}, map[int]int{0: 0, 1917: 0, 1918: 0, 1919: 0}},
		{map[int]api.Cell{0: field(0x10)}, map[int]int{0: 1, 1: 0, 1919: 0}},
	} {
		for from, want := range c.goes {
			s := empty(t, c.cells)
			checkOrders(t, s, "\x05", from, want, 1, api.OK)
			checkOrders(t, s, "\x28\x00\x00\x05\x28\x00\x00", from, want, 3, api.OK)
			checkScreen(t, "PT", s, empty(t, c.cells))
		}
	}
}

// P17.2: a text that ends at an attribute has nothing to null behind it.
func TestTabAtAttribute(t *testing.T) {
	s, want := tabbed(t), tabbed(t)
	checkOrders(t, s, "\x81\x05", 13, 31, 2, api.OK)
	want.Set(13, char(0x81))
	checkScreen(t, "at an attribute", s, want)
}

// P17.2: the field is the one that there is when PT is executed.
func TestTabBehindNewField(t *testing.T) {
	s := newSpace(t, 2, false)
	checkOrders(t, s, "\x1d\x60\xc1\x1d\x40\xc2\xc3\x1d\x60\xc4\x11"+to(3)+"\xc5\x05\xc6", 0, 1, 10, api.OK)
	checkScreen(t, "new fields", s, empty(t, map[int]api.Cell{0: char(0xc6), 1: char(0xc1), 2: field(0), 3: char(0xc5), 5: field(0x20), 6: char(0xc4)}))
}
