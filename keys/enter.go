package keys

import (
	"vitrine/api"
	"vitrine/class"
	"vitrine/cursor"
	"vitrine/erase"
	"vitrine/field"
)

// The codes of keys that have no character.
const (
	dup       = 0x1c
	fieldMark = 0x1e
)

func (b *Board) enterSign(sign rune) api.Errno {
	code, ok := b.page.Code(sign)
	if !ok || !class.Data(code) {
		return api.ErrSign
	}
	return b.enterCode(code)
}

// enterNumber asks for n's range first, since of a greater number the lower byte might be a code.
func (b *Board) enterNumber(n int) api.Errno {
	if n < 0 || n > 0xff || !class.Data(byte(n)) {
		return api.ErrArg
	}
	return b.enterCode(byte(n))
}

func (b *Board) enterCode(code byte) api.Errno {
	e := b.enter(code, b.inserts)
	if e == api.OK {
		cursor.After(b.screen)
	}
	return e
}

func (b *Board) enterDup() api.Errno {
	e := b.enter(dup, false)
	if e == api.OK {
		cursor.Tab(b.screen)
	}
	return e
}

// enter leaves the cursor where it is.
func (b *Board) enter(code byte, insert bool) api.Errno {
	at := b.screen.Cursor()
	// A screen without fields has a zero attribute here, which is not numeric.
	f, _ := field.Of(b.screen, at)
	switch {
	case !field.Open(b.screen, at):
		return b.refuse(protected, api.ErrProtect)
	case f.Numeric && !class.Numeric(b.page, code):
		return b.refuse(numeric, api.ErrNumeric)
	case insert && !erase.Insert(b.screen, at, code):
		return b.refuse(overflow, api.ErrFull)
	}
	c := b.screen.At(at)
	c.Char, c.Set = code, 0
	b.screen.Set(at, c)
	field.Modify(b.screen, at)
	return api.OK
}
