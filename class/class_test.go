package class_test

import (
	"math"
	"strings"
	"testing"

	"vitrine/api"
	"vitrine/class"
	"vitrine/page"
)

// The letters of the document: a to z, A to Z, and c0 to ff except d7 and f7.
const letters = "abcdefghijklmnopqrstuvwxyzABCDEFGHIJKLMNOPQRSTUVWXYZ" +
	"ÀÁÂÃÄÅÆÇÈÉÊËÌÍÎÏÐÑÒÓÔÕÖØÙÚÛÜÝÞß" + "àáâãäåæçèéêëìíîïðñòóôõöøùúûüýþÿ"

func open(t *testing.T, number int) *page.Page {
	t.Helper()
	p, e := page.New(number)
	if e != api.OK {
		t.Fatalf("New(%d): %d", number, e)
	}
	return p
}

// each runs a check for every code of every page.
func each(t *testing.T, check func(p *page.Page, code byte)) {
	t.Helper()
	for number := range page.Numbers() {
		p := open(t, number)
		for code := range 256 {
			check(p, byte(code))
		}
	}
}

// wantClass says the document's classes once more, by lists.
func wantClass(p *page.Page, code byte) class.Class {
	switch {
	case code == 0x00:
		return class.Null
	case strings.IndexByte("\x0c\x0d\x15\x19\x1c\x1e\x3f", code) >= 0:
		return class.Format
	case code == 0xff:
		return class.Ones
	case code <= 0x3f:
		return class.Control
	case code == 0x40:
		return class.Blank
	case strings.ContainsRune("0123456789", p.Sign(code)):
		return class.Digit
	case strings.ContainsRune(letters, p.Sign(code)):
		return class.Letter
	}
	return class.Mark
}

// P2.1: the classes of all codes.
func TestOf(t *testing.T) {
	each(t, func(p *page.Page, code byte) {
		if got, want := class.Of(p, code), wantClass(p, code); got != want {
			t.Errorf("page %d: Of(%02x) is %d, want %d", p.Number(), code, got, want)
		}
	})
}

// P2.1: codes whose class hangs on the page.
func TestOfHangsOnThePage(t *testing.T) {
	for _, c := range []struct {
		number int
		code   byte
		want   class.Class
	}{
		{37, 0xc0, class.Mark}, {273, 0xc0, class.Letter},
		{37, 0xa1, class.Mark}, {273, 0xa1, class.Letter}, {297, 0xa1, class.Mark},
		{37, 0x59, class.Letter}, {273, 0x59, class.Mark},
		{37, 0xba, class.Mark}, {1047, 0xba, class.Letter}, {1047, 0xad, class.Mark},
		{37, 0xad, class.Letter}, {37, 0x9f, class.Mark}, {1140, 0x9f, class.Mark},
		{37, 0xbf, class.Mark}, {37, 0xe1, class.Mark}, {37, 0x41, class.Mark}, {37, 0xfe, class.Letter},
		{297, 0x7c, class.Letter}, {500, 0x7c, class.Mark},
	} {
		if got := class.Of(open(t, c.number), c.code); got != c.want {
			t.Errorf("page %d: Of(%02x) is %d, want %d", c.number, c.code, got, c.want)
		}
	}
}

// P2.1: the classes are numbered in their order, and there are no other names.
func TestName(t *testing.T) {
	for number, want := range []string{"null", "format", "ones", "control", "blank", "digit", "letter", "mark"} {
		if got := class.Class(number).Name(); got != want {
			t.Errorf("Name of %d is %q, want %q", number, got, want)
		}
	}
	if class.Null != 0 || class.Format != 1 || class.Ones != 2 || class.Control != 3 ||
		class.Blank != 4 || class.Digit != 5 || class.Letter != 6 || class.Mark != 7 {
		t.Error("the numbers of the classes")
	}
	for _, number := range []class.Class{-1, 8, 9, 256, math.MaxInt, math.MinInt} {
		if got := number.Name(); got != "" {
			t.Errorf("Name of %d is %q", number, got)
		}
	}
}

// P2.1.
func TestData(t *testing.T) {
	for code := range 256 {
		want := code >= 0x40 && code <= 0xfe
		if got := class.Data(byte(code)); got != want {
			t.Errorf("Data(%02x) is %v", code, got)
		}
	}
}

// P2.1: the digits, the period, the minus and Dup, on every page.
func TestNumeric(t *testing.T) {
	each(t, func(p *page.Page, code byte) {
		want := code == 0x1c || strings.ContainsRune("0123456789.-", p.Sign(code))
		if listed := strings.IndexByte("\xf0\xf1\xf2\xf3\xf4\xf5\xf6\xf7\xf8\xf9\x4b\x60\x1c", code) >= 0; listed != want {
			t.Fatalf("page %d: the test's own lists differ at %02x", p.Number(), code)
		}
		if got := class.Numeric(p, code); got != want {
			t.Errorf("page %d: Numeric(%02x) is %v", p.Number(), code, got)
		}
	})
}

// P2.1.
func TestCount(t *testing.T) {
	p := open(t, 37)
	codes := []byte{0x00, 0x00, 0x1c, 0xff, 0x01, 0x02, 0x03, 0x40, 0xf1, 0xf2, 0xc1, 0x81, 0x51, 0x4b}
	want := [8]int{2, 1, 1, 3, 1, 2, 3, 1}
	if got := class.Count(p, codes); got != want {
		t.Errorf("Count is %v, want %v", got, want)
	}
	if got := class.Count(p, []byte{0xc0, 0xc0}); got != [8]int{7: 2} {
		t.Errorf("page 37: Count is %v", got)
	}
	if got := class.Count(open(t, 273), []byte{0xc0, 0xc0}); got != [8]int{6: 2} {
		t.Errorf("page 273: Count is %v", got)
	}
	if class.Count(p, nil) != [8]int{} || class.Count(p, []byte{}) != [8]int{} || class.Count(nil, nil) != [8]int{} {
		t.Error("Count of no codes")
	}
}

func TestCountOfAllCodes(t *testing.T) {
	for number := range page.Numbers() {
		p := open(t, number)
		var codes []byte
		var want [8]int
		for code := range 256 {
			codes = append(codes, byte(code))
			want[wantClass(p, byte(code))]++
		}
		if got := class.Count(p, codes); got != want {
			t.Errorf("page %d: Count is %v, want %v", number, got, want)
		}
	}
}

// P2.2: what is shown of all codes.
func TestShown(t *testing.T) {
	own := map[byte]rune{0x1c: '*', 0x1e: ';', 0x3f: 0xbf, 0xff: ' '}
	each(t, func(p *page.Page, code byte) {
		want, ok := own[code]
		switch sign := p.Sign(code); {
		case ok:
		case code < 0x40 || sign < 0x20 || sign >= 0x7f && sign <= 0x9f || sign == 0xad:
			want = ' '
		default:
			want = sign
		}
		if got := class.Shown(p, code); got != want {
			t.Errorf("page %d: Shown(%02x) is %04x, want %04x", p.Number(), code, got, want)
		}
	})
}

// P2.2: the edge cases by their codes.
func TestShownEdges(t *testing.T) {
	for _, c := range []struct {
		number int
		code   byte
		want   rune
	}{
		{37, 0x00, ' '}, {37, 0x01, ' '}, {37, 0x0c, ' '}, {37, 0x0d, ' '}, {37, 0x15, ' '}, {37, 0x19, ' '},
		{37, 0x1c, '*'}, {37, 0x1e, ';'}, {37, 0x3f, 0xbf}, {37, 0x3e, ' '}, {37, 0xff, ' '}, {37, 0x40, ' '},
		{37, 0x41, 0xa0}, {37, 0xca, ' '}, {37, 0xc1, 'A'}, {37, 0xa1, '~'}, {273, 0xc0, 0xe4},
		{1140, 0x9f, 0x20ac}, {37, 0x9f, 0xa4},
	} {
		if got := class.Shown(open(t, c.number), c.code); got != c.want {
			t.Errorf("page %d: Shown(%02x) is %04x, want %04x", c.number, c.code, got, c.want)
		}
	}
}

// P2.2: the designators and no others, on every page.
func TestDesignator(t *testing.T) {
	kinds := map[byte]int{0x6f: 1, 0x6e: 2, 0x00: 3, 0x40: 3, 0x50: 4}
	each(t, func(p *page.Page, code byte) {
		if got := class.Designator(p, code); got != kinds[code] {
			t.Errorf("page %d: Designator(%02x) is %d", p.Number(), code, got)
		}
	})
}

// P2.1, P2.2 and P1: a nil page counts as page 37.
func TestNilPage(t *testing.T) {
	p := open(t, 37)
	var codes []byte
	for n := range 256 {
		code := byte(n)
		codes = append(codes, code)
		if class.Of(nil, code) != class.Of(p, code) || class.Numeric(nil, code) != class.Numeric(p, code) ||
			class.Shown(nil, code) != class.Shown(p, code) || class.Designator(nil, code) != class.Designator(p, code) {
			t.Errorf("%02x without a page", code)
		}
	}
	if class.Count(nil, codes) != class.Count(p, codes) {
		t.Error("Count without a page")
	}
}

// The rule of memory, and P2: the codes that are counted stay, and so does the answer.
func TestCountLeavesItsCodes(t *testing.T) {
	p := open(t, 37)
	codes := []byte{0xc1, 0xf1, 0x99}
	first := class.Count(p, codes[:2])
	if string(codes) != "\xc1\xf1\x99" || first != class.Count(p, codes[:2]) {
		t.Errorf("Count: %x, %v", codes, first)
	}
}
