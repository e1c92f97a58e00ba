package page_test

import (
	"bytes"
	"math"
	"slices"
	"strings"
	"testing"

	"vitrine/api"
	"vitrine/page"
)

func open(t *testing.T, number int) *page.Page {
	t.Helper()
	p, e := page.New(number)
	if e != api.OK || p == nil {
		t.Fatalf("New(%d): %v, %d", number, p, e)
	}
	return p
}

// P1.1: every code of every page.
func TestSignAndCode(t *testing.T) {
	for number, signs := range tables(t) {
		p := open(t, number)
		if p.Number() != number {
			t.Errorf("page %d: Number is %d", number, p.Number())
		}
		for code, sign := range signs {
			if got := p.Sign(byte(code)); got != sign {
				t.Errorf("page %d: Sign(%02x) is %04x, want %04x", number, code, got, sign)
			}
			if got, ok := p.Code(sign); !ok || got != byte(code) {
				t.Errorf("page %d: Code(%04x) is %02x, %v, want %02x", number, sign, got, ok, code)
			}
		}
	}
}

// P1.1: Code as the first use of a page, before Sign.
func TestCodeFirst(t *testing.T) {
	if code, ok := open(t, 273).Code(0xe4); !ok || code != 0xc0 {
		t.Errorf("Code(e4) is %02x, %v", code, ok)
	}
	if code := open(t, 37).Upper(0x81); code != 0xc1 {
		t.Errorf("Upper(81) is %02x", code)
	}
	if text := open(t, 1140).Text([]byte{0x9f}); text != "€" {
		t.Errorf("Text(9f) is %q", text)
	}
	if codes, n, e := open(t, 297).Codes("@"); e != api.OK || n != 1 || !bytes.Equal(codes, []byte{0x44}) {
		t.Errorf("Codes(@) is %x, %d, %d", codes, n, e)
	}
}

// P1.1: characters without a code, and numbers that are no characters.
func TestCodeNone(t *testing.T) {
	none := []rune{-1, math.MinInt32, 0x100, 0x2190, 0x250c, 0xd800, 0xdfff, 0xfffd, 0x10ffff, 0x110000, math.MaxInt32}
	for number, signs := range tables(t) {
		p := open(t, number)
		for sign := rune(0); sign < 0x3000; sign++ {
			if _, ok := p.Code(sign); ok != slices.Contains(signs[:], sign) {
				t.Errorf("page %d: Code(%04x) is %v", number, sign, ok)
			}
		}
		for _, sign := range none {
			if code, ok := p.Code(sign); ok || code != 0 {
				t.Errorf("page %d: Code(%x) is %02x, %v", number, sign, code, ok)
			}
		}
	}
}

// P1.1: there are no other pages.
func TestNewNone(t *testing.T) {
	for _, number := range []int{0, 1, -1, -37, 36, 38, 272, 274, 296, 298, 499, 501, 1046, 1048, 1139, 1141, math.MaxInt, math.MinInt} {
		if p, e := page.New(number); e != api.ErrNone || p != nil {
			t.Errorf("New(%d): %v, %d", number, p, e)
		}
	}
}

// P1.1, and the rule of iterators: the same each time, and nothing after a stop.
func TestNumbers(t *testing.T) {
	want := []int{37, 273, 297, 500, 1047, 1140}
	all := page.Numbers()
	for range 2 {
		if got := slices.Collect(all); !slices.Equal(got, want) {
			t.Errorf("Numbers: %v", got)
		}
	}
	for stop := range want {
		var got []int
		for number := range all {
			got = append(got, number)
			if len(got) == stop+1 {
				break
			}
		}
		if !slices.Equal(got, want[:stop+1]) {
			t.Errorf("Numbers, stopped after %d: %v", stop+1, got)
		}
	}
}

// P1.2: all codes there and back.
func TestTextAndCodes(t *testing.T) {
	for number, signs := range tables(t) {
		p := open(t, number)
		var codes []byte
		var want strings.Builder
		for code, sign := range signs {
			codes = append(codes, byte(code))
			want.WriteRune(sign)
		}
		text := p.Text(codes)
		if text != want.String() {
			t.Errorf("page %d: Text is %q", number, text)
		}
		back, n, e := p.Codes(text)
		if e != api.OK || n != 256 || !bytes.Equal(back, codes) {
			t.Errorf("page %d: Codes is %x, %d, %d", number, back, n, e)
		}
	}
}

func TestTextAndCodesEmpty(t *testing.T) {
	p := open(t, 37)
	if text := p.Text(nil); text != "" {
		t.Errorf("Text(nil) is %q", text)
	}
	if text := p.Text([]byte{}); text != "" {
		t.Errorf("Text of no codes is %q", text)
	}
	if codes, n, e := p.Codes(""); len(codes) != 0 || n != 0 || e != api.OK {
		t.Errorf("Codes of no text is %x, %d, %d", codes, n, e)
	}
}

// P1.2: Codes stops at the first character at fault and counts characters, not bytes.
func TestCodesFaults(t *testing.T) {
	for _, c := range []struct {
		number int
		text   string
		n      int
		e      api.Errno
	}{
		{37, "€", 0, api.ErrSign},
		{37, "A€", 1, api.ErrSign},
		{37, "äöü€A", 3, api.ErrSign},
		{1140, "€¤", 1, api.ErrSign},
		{37, "ab\u2190", 2, api.ErrSign},
		{37, "a😀", 1, api.ErrSign},
		{37, "a\ufffd", 1, api.ErrSign},
		{37, "a\ufffd\xff", 1, api.ErrSign},
		{37, "a€\xff", 1, api.ErrSign},
		{37, "AB\xff", 2, api.ErrForm},
		{37, "\xffAB", 0, api.ErrForm},
		{37, "ä\xff\ufffd", 1, api.ErrForm},
		{37, "ä\xff€", 1, api.ErrForm},
		{37, "äA\xc3", 2, api.ErrForm},
		{37, "\xa4", 0, api.ErrForm},
		{37, "a\xc0\x80", 1, api.ErrForm},
		{37, "a\xed\xa0\x80", 1, api.ErrForm},
		{37, "a\xf4\x90\x80\x80", 1, api.ErrForm},
		{37, "a\xef\xbf", 1, api.ErrForm},
		{500, "a\xe2\x82", 1, api.ErrForm},
	} {
		codes, n, e := open(t, c.number).Codes(c.text)
		if len(codes) != 0 || n != c.n || e != c.e {
			t.Errorf("page %d: Codes(%q) is %x, %d, %d, want %d, %d", c.number, c.text, codes, n, e, c.n, c.e)
		}
	}
}

// P1.2: the letters are listed one by one, all other codes stay.
func TestUpper(t *testing.T) {
	small := "abcdefghijklmnopqrstuvwxyzàáâãäåæçèéêëìíîïðñòóôõöøùúûüýþ"
	great := []rune("ABCDEFGHIJKLMNOPQRSTUVWXYZÀÁÂÃÄÅÆÇÈÉÊËÌÍÎÏÐÑÒÓÔÕÖØÙÚÛÜÝÞ")
	upper := map[rune]rune{}
	for i, sign := range []rune(small) {
		upper[sign] = great[i]
	}
	for number, signs := range tables(t) {
		p := open(t, number)
		for code, sign := range signs {
			want := byte(code)
			if capital, ok := upper[sign]; ok {
				want = byte(slices.Index(signs[:], capital))
			}
			if got := p.Upper(byte(code)); got != want {
				t.Errorf("page %d: Upper(%02x) is %02x, want %02x", number, code, got, want)
			}
		}
	}
}

// P1.2: the graphic escapes, all of them and no other.
func TestEscapes(t *testing.T) {
	signs := pairs(t, tableEscapes)
	codes := map[rune]byte{}
	for code, sign := range signs {
		codes[sign] = code
	}
	if len(signs) != 19 || len(codes) != 19 {
		t.Fatal(len(signs), len(codes))
	}
	for code := range 256 {
		want, known := signs[byte(code)]
		if sign, ok := page.Escape(byte(code)); ok != known || sign != want {
			t.Errorf("Escape(%02x) is %04x, %v", code, sign, ok)
		}
	}
	for sign := rune(-1); sign < 0x3000; sign++ {
		want, known := codes[sign]
		if code, ok := page.Escaped(sign); ok != known || code != want {
			t.Errorf("Escaped(%04x) is %02x, %v", sign, code, ok)
		}
	}
	for _, sign := range []rune{math.MinInt32, math.MaxInt32, 0xfffd, 0x12190} {
		if code, ok := page.Escaped(sign); ok || code != 0 {
			t.Errorf("Escaped(%x) is %02x, %v", sign, code, ok)
		}
	}
}

// P1.2 and P1: a nil page.
func TestNilPage(t *testing.T) {
	var p *page.Page
	if p.Number() != 0 || p.Text([]byte{0xc1}) != "" || p.Text(nil) != "" {
		t.Error("Number or Text")
	}
	for code := range 256 {
		if p.Sign(byte(code)) != 0 || p.Upper(byte(code)) != byte(code) {
			t.Errorf("Sign or Upper of %02x", code)
		}
	}
	for _, sign := range []rune{0, 'A', -1} {
		if code, ok := p.Code(sign); ok || code != 0 {
			t.Errorf("Code(%x) is %02x, %v", sign, code, ok)
		}
	}
	for _, text := range []string{"", "A", "€", "\xff"} {
		if codes, n, e := p.Codes(text); len(codes) != 0 || n != 0 || e != api.ErrNone {
			t.Errorf("Codes(%q) is %x, %d, %d", text, codes, n, e)
		}
	}
}

// The rule of memory: arguments are not changed, and results are new memory.
func TestMemory(t *testing.T) {
	p := open(t, 37)
	room := []byte{0xc1, 0xc2, 0x99, 0x98}
	text := p.Text(room[:2])
	if text != "AB" || !bytes.Equal(room, []byte{0xc1, 0xc2, 0x99, 0x98}) {
		t.Errorf("Text is %q, its argument %x", text, room)
	}
	room[0] = 0
	if text != "AB" {
		t.Errorf("the text became %q", text)
	}
	first, _, _ := p.Codes("AB")
	second, _, _ := p.Codes("AB")
	for i := range first[:cap(first)] {
		first[:cap(first)][i] = 0
	}
	if !bytes.Equal(second, []byte{0xc1, 0xc2}) || p.Sign(0xc1) != 'A' || p.Text(second) != "AB" {
		t.Errorf("an earlier result is shared: %x", second)
	}
}

// P2: one page's use does not show in another's, nor in its own later answers.
func TestPagesAreIndependent(t *testing.T) {
	a, b, other := open(t, 37), open(t, 37), open(t, 273)
	if a == b {
		t.Error("New returned the same page twice")
	}
	for range 2 {
		if other.Sign(0xc0) != 0xe4 || a.Sign(0xc0) != '{' || b.Sign(0xc0) != '{' {
			t.Error("Sign(c0)")
		}
		if _, _, e := a.Codes("€"); e != api.ErrSign {
			t.Errorf("Codes: %d", e)
		}
	}
}
