// Package class is layer 2: classes of character codes, see shared/doc/02-class.md.
package class

import "vitrine/page"

// Class is what a code is.
type Class int

// The classes.
const (
	Null Class = iota
	Format
	Ones
	Control
	Blank
	Digit
	Letter
	Mark
)

// The codes whose class hangs on no page.
const (
	null      = 0x00
	formFeed  = 0x0c
	carriage  = 0x0d
	newLine   = 0x15
	endMedium = 0x19
	dup       = 0x1c
	fieldMark = 0x1e
	sub       = 0x3f
	blank     = 0x40
	ones      = 0xff
)

var names = [8]string{"null", "format", "ones", "control", "blank", "digit", "letter", "mark"}

// known lets a nil page count as page 37.
func known(p *page.Page) *page.Page {
	if p != nil {
		return p
	}
	usual, _ := page.New(37)
	return usual
}

func Of(p *page.Page, code byte) Class {
	switch code {
	case null:
		return Null
	case formFeed, carriage, newLine, endMedium, dup, fieldMark, sub:
		return Format
	case ones:
		return Ones
	case blank:
		return Blank
	}
	if code < blank {
		return Control
	}
	return ofSign(known(p).Sign(code))
}

func ofSign(sign rune) Class {
	switch {
	case digit(sign):
		return Digit
	case letter(sign):
		return Letter
	}
	return Mark
}

func digit(sign rune) bool {
	return sign >= '0' && sign <= '9'
}

// letter leaves out d7 and f7, the signs of multiplication and division among the letters.
func letter(sign rune) bool {
	plain := sign >= 'a' && sign <= 'z' || sign >= 'A' && sign <= 'Z'
	accented := sign >= 0xc0 && sign <= 0xff && sign != 0xd7 && sign != 0xf7
	return plain || accented
}

func (c Class) Name() string {
	if c < Null || c > Mark {
		return ""
	}
	return names[c]
}

func Data(code byte) bool {
	return code >= blank && code < ones
}

func Numeric(p *page.Page, code byte) bool {
	if code == dup {
		return true
	}
	sign := known(p).Sign(code)
	return digit(sign) || sign == '.' || sign == '-'
}

func Shown(p *page.Page, code byte) rune {
	switch code {
	case dup:
		return '*'
	case fieldMark:
		return ';'
	case sub:
		return 0xbf
	}
	p = known(p)
	switch Of(p, code) {
	case Null, Format, Ones, Control:
		return ' '
	}
	sign := p.Sign(code)
	if invisible(sign) {
		return ' '
	}
	return sign
}

// invisible covers the control characters and the soft hyphen.
func invisible(sign rune) bool {
	return sign < 0x20 || sign >= 0x7f && sign <= 0x9f || sign == 0xad
}

// Designator goes by the character, since a code may stand for another one on another page.
func Designator(p *page.Page, code byte) int {
	switch known(p).Sign(code) {
	case '?':
		return 1
	case '>':
		return 2
	case 0, ' ':
		return 3
	case '&':
		return 4
	}
	return 0
}

func Count(p *page.Page, codes []byte) [8]int {
	p = known(p) // once for all codes, since a page is costly to build
	var counts [8]int
	for _, code := range codes {
		counts[Of(p, code)]++
	}
	return counts
}
