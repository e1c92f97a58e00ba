package keys

import (
	"vitrine/api"
	"vitrine/attr"
	"vitrine/class"
	"vitrine/field"
)

// What the first character of a detectable field tells.
const (
	unselected = 1
	selected   = 2
	sends      = 3
	enters     = 4
)

// The characters of a field that is not selected, and of one that is.
const (
	unselectedSign = '?'
	selectedSign   = '>'
)

func (b *Board) selectField() (bool, api.Errno) {
	at := b.screen.Cursor()
	// A screen without fields has a zero attribute here, which is not detectable.
	f, _ := field.Of(b.screen, at)
	first := field.Start(b.screen, at) + 1
	kind := class.Designator(b.page, b.screen.At(first).Char)
	if b.screen.At(at).Attr || !selectable(f, kind) {
		return false, b.refuse(protected, api.ErrProtect)
	}
	// The field of one that was selected stays as it is, since the operator may have written into it, too.
	if kind != selected {
		field.Modify(b.screen, at)
	}
	switch kind {
	case unselected:
		b.designate(first, selectedSign)
	case selected:
		b.designate(first, unselectedSign)
	case sends:
		b.send(selectAID)
	case enters:
		b.send(enterAID)
	}
	return kind == sends || kind == enters, api.OK
}

// selectable reports whether a field may be selected by its attribute and the kind of its first character; in a protected one no character may change.
func selectable(f attr.Field, kind int) bool {
	switch kind {
	case unselected, selected:
		return f.Detectable() && !f.Protected
	case sends, enters:
		return f.Detectable()
	}
	return false
}

// designate needs no question for the code, which every page has.
func (b *Board) designate(first int, sign rune) {
	code, _ := b.page.Code(sign)
	b.screen.Put(first, code)
}
