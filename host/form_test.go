package host_test

import (
	"bytes"
	"math"
	"slices"
	"strings"
	"testing"

	"vitrine/addr"
	"vitrine/api"
	"vitrine/attr"
	"vitrine/host"
)

// P24.1: the chapter's example.
func TestExample(t *testing.T) {
	f := host.Form{Items: []host.Item{{Text: "A"}}, Erase: true, Restore: true}
	expectRecord(t, f, usual, "\xf5\x42\x11\x40\x40\x1d\x40\xc1", api.OK)
}

// P24.1: no item, and one, with each choice of the form's flags.
func TestFlags(t *testing.T) {
	for n := range 32 {
		f := host.Form{Erase: n&1 != 0, Alternate: n&2 != 0, Restore: n&4 != 0, Alarm: n&8 != 0, Unmodify: n&16 != 0}
		command, control := "\xf1", byte(0x40)
		if f.Erase {
			command = "\xf5"
		}
		if f.Erase && f.Alternate {
			command = "\x7e"
		}
		if f.Restore {
			control += 2
		}
		if f.Alarm {
			control += 4
		}
		if f.Unmodify {
			control++
		}
		front := command + string([]byte{control})
		for _, l := range [][]host.Item{nil, {}} {
			f.Items = l
			expectRecord(t, f, usual, front, api.OK)
		}
		f.Items = []host.Item{{Row: 1, Text: "B"}}
		expectRecord(t, f, usual, front+"\x11\xc1\x50\x1d\x40\xc2", api.OK)
	}
}

// P24.1: an item at each position of each size.
func TestPositions(t *testing.T) {
	for _, s := range sizes {
		for row := range s.Rows {
			for col := range s.Cols {
				expectRecord(t, only(host.Item{Row: row, Col: col}), s, "\xf1\x40"+to(row*s.Cols+col)+"\x1d\x40", api.OK)
			}
		}
	}
}

// P24.1: each field attribute, alone and beside extended attributes, with a cursor and without, with a text and without.
func TestItems(t *testing.T) {
	for _, f := range attributes() {
		b := string([]byte{attribute(f)})
		for _, text := range []string{"", "A", "Two words"} {
			codes, _, _ := newPage(t, 37).Codes(text)
			for _, cursor := range []bool{false, true} {
				behind := string(codes)
				if cursor {
					behind = "\x13" + behind
				}
				i := host.Item{Row: 2, Col: 5, Field: f, Text: text, Cursor: cursor}
				expectRecord(t, only(i), usual, "\xf1\x40"+to(165)+"\x1d"+b+behind, api.OK)
				i.Ext = []attr.Pair{}
				expectRecord(t, only(i), usual, "\xf1\x40"+to(165)+"\x1d"+b+behind, api.OK)
				i.Ext = []attr.Pair{{Type: 0x42, Value: 0xf2}}
				expectRecord(t, only(i), usual, "\xf1\x40"+to(165)+"\x29\x02\xc0"+b+"\x42\xf2"+behind, api.OK)
				i.Ext = []attr.Pair{{Type: 0x43, Value: 0xf1}, {}, {Type: 0x41, Value: 0xf8}, {Type: 0x41, Value: 0xf8}}
				expectRecord(t, only(i), usual, "\xf1\x40"+to(165)+"\x29\x05\xc0"+b+"\x43\xf1\x00\x00\x41\xf8\x41\xf8"+behind, api.OK)
			}
		}
	}
}

// P24.1: several items, in their order, also at the same place; each may have the cursor.
func TestSeveralItems(t *testing.T) {
	f := host.Form{Alarm: true, Items: []host.Item{
		{Row: 23, Col: 79, Text: "Z", Cursor: true},
		{Field: attr.Field{Protected: true, Numeric: true}, Text: "A B"},
		{Field: attr.Field{Display: 3}, Ext: []attr.Pair{{Type: 0x41, Value: 0xf1}}, Cursor: true},
		{},
		{Row: 1, Col: 1, Text: "C"},
	}}
	expectRecord(t, f, usual, "\xf1\x44"+"\x11\x5d\x7f\x1d\x40\x13\xe9"+"\x11\x40\x40\x1d\xf0\xc1\x40\xc2"+"\x11\x40\x40\x29\x02\xc0\x4c\x41\xf1\x13"+"\x11\x40\x40\x1d\x40"+"\x11\xc1\xd1\x1d\x40\xc3", api.OK)
}

// knownPair lists the extended attributes as layer 5 does, but C0.
func knownPair(p attr.Pair) bool {
	values := map[byte]string{0x00: "\x00", 0x41: "\x00\xf0\xf1\xf2\xf4\xf8", 0x42: "\x00\xf1\xf2\xf3\xf4\xf5\xf6\xf7", 0x43: "\x00\xf1"}
	return strings.IndexByte(values[p.Type], p.Value) >= 0
}

// P24.1: every extended attribute, alone and behind one that is valid; C0 is none that an item may have.
func TestExtended(t *testing.T) {
	p := newPage(t, 37)
	good := attr.Pair{Type: 0x41, Value: 0xf1}
	for n := range 65536 {
		one := attr.Pair{Type: byte(n >> 8), Value: byte(n)}
		alone, behind, e := "\xf1\x40\x11\x40\x40\x29\x02\xc0\x40"+string([]byte{one.Type, one.Value}), "\xf1\x40\x11\x40\x40\x29\x03\xc0\x40\x41\xf1"+string([]byte{one.Type, one.Value}), api.OK
		if !knownPair(one) {
			alone, behind, e = "", "", api.ErrOrder
		}
		expectOnPage(t, only(host.Item{Ext: []attr.Pair{one}}), usual, p, alone, e)
		expectOnPage(t, only(host.Item{Ext: []attr.Pair{good, one}}), usual, p, behind, e)
	}
}

// P24.1: 254 extended attributes, and one more.
func TestManyExtended(t *testing.T) {
	one := attr.Pair{Type: 0x42, Value: 0xf7}
	for _, count := range []int{1, 2, 127, 128, 253, 254, 255, 256, 257, 510, 511, 512, 1000} {
		i := host.Item{Ext: slices.Repeat([]attr.Pair{one}, count), Text: "A"}
		if count > 254 {
			expectRecord(t, only(i), usual, "", api.ErrLong)
			continue
		}
		expectRecord(t, only(i), usual, "\xf1\x40\x11\x40\x40\x29"+string([]byte{byte(count + 1)})+"\xc0\x40"+strings.Repeat("\x42\xf7", count)+"\xc1", api.OK)
	}
}

// P24.1: the code of each character of each page; those of orders may not be in a text.
func TestTexts(t *testing.T) {
	for _, number := range pages {
		p := newPage(t, number)
		for code := range 256 {
			b := byte(code)
			sign := string(p.Sign(b))
			for _, around := range []string{"", "A", "AB"} {
				codes, _, _ := p.Codes(around)
				want, e := "\xf1\x40\x11\x40\x40\x1d\x40"+string(codes)+string([]byte{b})+string(codes), api.OK
				if isOrder(b) {
					want, e = "", api.ErrOrder
				}
				expectOnPage(t, only(host.Item{Text: around + sign + around}), usual, p, want, e)
			}
		}
	}
	for number, want := range map[int]string{37: "\x43\x4a", 273: "\xc0\xb0", 297: "\x43\xb0", 500: "\x43\xb0", 1047: "\x43\x4a", 1140: "\x43\x4a"} {
		expectOnPage(t, only(host.Item{Text: "ä¢"}), usual, newPage(t, number), "\xf1\x40\x11\x40\x40\x1d\x40"+want, api.OK)
	}
}

// P24.1: a record of MaxRecord bytes, and one more.
func TestLongRecords(t *testing.T) {
	front := "\xf1\x40\x11\x40\x40\x1d\x40"
	for _, n := range []int{0, 1, 8000, 8184, 8185, 8186, 8187, 8192, 20000} {
		f := only(host.Item{Text: strings.Repeat("ü", n)})
		if len(front)+n > 8192 {
			expectRecord(t, f, usual, "", api.ErrLong)
			continue
		}
		expectRecord(t, f, usual, front+strings.Repeat("\xdc", n), api.OK)
	}
	// 1638 items of five bytes, which are 8192 with the command and the control character.
	l := slices.Repeat([]host.Item{{}}, 1638)
	expectRecord(t, only(l...), usual, "\xf1\x40"+strings.Repeat("\x11\x40\x40\x1d\x40", 1638), api.OK)
	l[500].Cursor = true
	expectRecord(t, only(l...), usual, "", api.ErrLong)
	expectRecord(t, only(slices.Repeat([]host.Item{{}}, 1639)...), usual, "", api.ErrLong)
	ext := slices.Repeat([]attr.Pair{{}}, 254)
	expectRecord(t, only(slices.Repeat([]host.Item{{Ext: ext}}, 15)...), usual, "\xf1\x40"+strings.Repeat("\x11\x40\x40\x29\xff\xc0\x40"+strings.Repeat("\x00", 508), 15), api.OK)
	expectRecord(t, only(slices.Repeat([]host.Item{{Ext: ext}}, 16)...), usual, "", api.ErrLong)
}

// fault is what is wrong with an item, and the error that it is.
type fault struct {
	e   api.Errno
	put func(i *host.Item)
}

// faults are in the order in which they are looked for. Those with the same rank cannot be held against each other.
func faults() [][]fault {
	at := func(row, col int) fault {
		return fault{api.ErrArg, func(i *host.Item) { i.Row, i.Col = row, col }}
	}
	display := func(n int) fault {
		return fault{api.ErrArg, func(i *host.Item) { i.Field.Display = n }}
	}
	ext := func(p attr.Pair) fault {
		return fault{api.ErrOrder, func(i *host.Item) { i.Ext = append([]attr.Pair{p}, i.Ext...) }}
	}
	text := func(e api.Errno, s string) fault {
		return fault{e, func(i *host.Item) { i.Text += s }}
	}
	return [][]fault{
		{at(24, 0), at(-1, 0), at(0, 80), at(0, -1), at(24, 80), at(math.MinInt, 0), at(0, math.MaxInt), at(1<<32, 1<<32)},
		{display(4), display(-1), display(-4), display(256), display(math.MinInt), display(math.MaxInt)},
		{ext(attr.Pair{Type: 0x44, Value: 0xf1}), ext(attr.Pair{Type: 0x41, Value: 0xf3}), ext(attr.Pair{Type: 0xc0, Value: 0x40}), ext(attr.Pair{Value: 1})},
		{text(api.ErrSign, "α"), text(api.ErrForm, "\xff"), text(api.ErrSign, "\ufffd"), text(api.ErrForm, "\xc3")},
		{text(api.ErrOrder, "\t"), text(api.ErrOrder, "\x12"), text(api.ErrOrder, "\u0088")},
		{{api.ErrLong, func(i *host.Item) {
			i.Ext = append(i.Ext, slices.Repeat([]attr.Pair{{Type: 0x42, Value: 0xf1}}, 255)...)
		}}},
	}
}

// P24.1: each error alone, alone in a later item, and two at once in one item, of which the first counts.
func TestFaults(t *testing.T) {
	ranks := faults()
	for n, rank := range ranks {
		for _, one := range rank {
			i := host.Item{Row: 3, Col: 4, Text: "A"}
			one.put(&i)
			expectRecord(t, only(i), usual, "", one.e)
			expectRecord(t, only(host.Item{}, host.Item{Text: "B"}, i, host.Item{}), usual, "", one.e)
			for _, later := range ranks[n+1:] {
				for _, other := range later {
					both := host.Item{Text: "A"}
					one.put(&both)
					other.put(&both)
					expectRecord(t, only(both), usual, "", one.e)
					both = host.Item{Text: "A"}
					other.put(&both)
					one.put(&both)
					expectRecord(t, only(both), usual, "", one.e)
				}
			}
		}
	}
}

// P24.1: of two items with errors the first one's counts, and either counts before a record that is too long.
func TestFaultsOfItems(t *testing.T) {
	var all []fault
	for _, rank := range faults() {
		all = append(all, rank...)
	}
	long := host.Item{Text: strings.Repeat("A", 9000)}
	expectRecord(t, only(long), usual, "", api.ErrLong)
	for _, first := range all {
		var a host.Item
		first.put(&a)
		expectRecord(t, only(long, a), usual, "", first.e)
		expectRecord(t, only(a, long), usual, "", first.e)
		for _, second := range all {
			var b host.Item
			second.put(&b)
			expectRecord(t, only(a, b), usual, "", first.e)
			expectRecord(t, only(host.Item{}, b, a), usual, "", second.e)
		}
	}
}

// P24.1: of the characters of one text the first that cannot be encoded counts.
func TestFaultsOfTexts(t *testing.T) {
	for text, e := range map[string]api.Errno{"α\xff": api.ErrSign, "\xffα": api.ErrForm, "A\xffBα": api.ErrForm, "AαB\xff": api.ErrSign, "\tα": api.ErrSign, "\t\xff": api.ErrForm, "A\tB": api.ErrOrder, "\xf0\x9f\x98": api.ErrForm, "😀": api.ErrSign} {
		expectRecord(t, only(host.Item{Text: text}), usual, "", e)
	}
}

// P24.1: positions just outside the size, of each size.
func TestOffScreen(t *testing.T) {
	p := newPage(t, 37)
	for _, s := range sizes {
		for _, at := range [][2]int{{-1, 0}, {0, -1}, {s.Rows, 0}, {0, s.Cols}, {s.Rows, s.Cols}, {s.Rows - 1, s.Cols}, {s.Rows, s.Cols - 1}, {-s.Rows, 0}, {math.MaxInt, 0}, {0, math.MinInt}} {
			expectOnPage(t, only(host.Item{Row: at[0], Col: at[1]}), s, p, "", api.ErrArg)
		}
	}
}

// P24.1: a nil page, and invalid sizes; both count before what is wrong with the items.
func TestNilPageAndWrongSize(t *testing.T) {
	for _, rank := range faults() {
		for _, one := range rank {
			var i host.Item
			one.put(&i)
			for _, f := range []host.Form{{}, only(host.Item{}), only(i), {Erase: true, Alternate: true}} {
				for _, s := range wrongSizes {
					expectRecord(t, f, s, "", api.ErrArg)
					expectOnPage(t, f, s, nil, "", api.ErrNone)
				}
				for _, s := range sizes {
					expectOnPage(t, f, s, nil, "", api.ErrNone)
				}
			}
		}
	}
}

// P24.1: an item that is on one screen need not be on another one.
func TestSizes(t *testing.T) {
	f := only(host.Item{Row: 26, Col: 131})
	expectRecord(t, f, addr.Size{Rows: 27, Cols: 132}, "\xf1\x40"+to(3563)+"\x1d\x40", api.OK)
	expectRecord(t, f, addr.Size{Rows: 26, Cols: 132}, "", api.ErrArg)
	expectRecord(t, f, addr.Size{Rows: 27, Cols: 131}, "", api.ErrArg)
	expectRecord(t, f, addr.Size{Rows: 43, Cols: 80}, "", api.ErrArg)
}

// The rule of memory: a form is not changed, and records share nothing with it or with each other.
func TestFormStays(t *testing.T) {
	p := newPage(t, 37)
	ext := append(make([]attr.Pair, 0, 4), attr.Pair{Type: 0x41, Value: 0xf1}, attr.Pair{Type: 0x42, Value: 0xf2})
	items := append(make([]host.Item, 0, 3), host.Item{Row: 1, Ext: ext, Text: "A", Cursor: true}, host.Item{Col: 3})
	f := host.Form{Items: items, Restore: true}
	first, _ := f.Record(usual, p)
	second, _ := f.Record(usual, p)
	want := string(second)
	overwrite(first)
	if third, _ := f.Record(usual, p); string(third) != want || string(second) != want || !bytes.HasPrefix(second, []byte("\xf1\x42\x11\xc1\x50\x29\x03\xc0\x40\x41\xf1\x42\xf2\x13\xc1")) {
		t.Errorf("%x and %x after another record is overwritten", second, third)
	}
	if ext[:4][2] != (attr.Pair{}) || ext[1] != (attr.Pair{Type: 0x42, Value: 0xf2}) || items[0].Text != "A" || items[:3][2].Ext != nil {
		t.Errorf("the form is %v", f)
	}
	ext[0], items[1].Row = attr.Pair{}, 9
	if string(second) != want {
		t.Errorf("%x after the form is changed", second)
	}
	if p.Number() != 37 {
		t.Errorf("the page is %d", p.Number())
	}
}
