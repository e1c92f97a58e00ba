// Package page is layer 1: EBCDIC code pages, see shared/doc/01-page.md.
package page

import (
	"iter"
	"strings"
	"sync"
	"unicode/utf8"

	"vitrine/api"
)

// Page is a code page. Its characters are built on first use, so that New stays cheap.
type Page struct {
	number int
	once   sync.Once
	signs  [256]rune
	codes  map[rune]byte
}

func New(number int) (*Page, api.Errno) {
	for n := range Numbers() {
		if n == number {
			return &Page{number: number}, api.OK
		}
	}
	return nil, api.ErrNone
}

func Numbers() iter.Seq[int] {
	return func(yield func(int) bool) {
		for _, n := range numbers {
			if !yield(n) {
				return
			}
		}
	}
}

// build starts from page 37, since the other pages are told by what they change of it.
func (p *Page) build() {
	for code := range p.signs {
		p.signs[code] = rune(base[code])
	}
	for _, c := range changes(p.number) {
		p.signs[c.code] = c.sign
	}
	p.codes = make(map[rune]byte, len(p.signs))
	for code, sign := range p.signs {
		p.codes[sign] = byte(code)
	}
}

func (p *Page) Number() int {
	if p == nil {
		return 0
	}
	return p.number
}

func (p *Page) Sign(code byte) rune {
	if p == nil {
		return 0
	}
	p.once.Do(p.build)
	return p.signs[code]
}

func (p *Page) Code(sign rune) (byte, bool) {
	if p == nil {
		return 0, false
	}
	p.once.Do(p.build)
	code, ok := p.codes[sign]
	return code, ok
}

func (p *Page) Text(codes []byte) string {
	if p == nil {
		return ""
	}
	var text strings.Builder
	for _, code := range codes {
		text.WriteRune(p.Sign(code))
	}
	return text.String()
}

// Codes counts characters, not bytes: with an error, the number tells which character is at fault.
func (p *Page) Codes(text string) ([]byte, int, api.Errno) {
	if p == nil {
		return nil, 0, api.ErrNone
	}
	codes := make([]byte, 0, len(text))
	for at, sign := range text {
		if sign == utf8.RuneError && broken(text[at:]) {
			return nil, len(codes), api.ErrForm
		}
		code, ok := p.Code(sign)
		if !ok {
			return nil, len(codes), api.ErrSign
		}
		codes = append(codes, code)
	}
	return codes, len(codes), api.OK
}

// broken tells invalid UTF-8 from a well-formed U+FFFD: ranging over a string yields
// the same character for both, but only the invalid one is a single byte.
func broken(text string) bool {
	sign, size := utf8.DecodeRuneInString(text)
	return sign == utf8.RuneError && size == 1
}

func (p *Page) Upper(code byte) byte {
	sign := p.Sign(code)
	if !lower(sign) {
		return code
	}
	upper, ok := p.Code(sign - 0x20)
	if !ok {
		return code
	}
	return upper
}

// lower leaves out df and ff, whose upper-case letters are not 20 less, and the division sign f7.
func lower(sign rune) bool {
	return sign >= 'a' && sign <= 'z' || sign >= 0xe0 && sign <= 0xfe && sign != 0xf7
}

func Escape(code byte) (rune, bool) {
	for _, e := range escapes {
		if e.code == code {
			return e.sign, true
		}
	}
	return 0, false
}

func Escaped(sign rune) (byte, bool) {
	for _, e := range escapes {
		if e.sign == sign {
			return e.code, true
		}
	}
	return 0, false
}
