package host

import (
	"slices"

	"vitrine/addr"
	"vitrine/api"
	"vitrine/attr"
	"vitrine/entry"
	"vitrine/order"
	"vitrine/page"
	"vitrine/write"
)

// The bits of a write control character; the first of them is always there.
const (
	usualControl = 0x40
	restoreBit   = 0x02
	alarmBit     = 0x04
	unmodifyBit  = 0x01
)

// fieldType is the extended attribute with the byte of a field attribute.
const fieldType = 0xc0

// Item is a field, and what stands in it.
type Item struct {
	Row    int
	Col    int
	Field  attr.Field
	Ext    []attr.Pair
	Text   string
	Cursor bool
}

// Form is items, and how they are written.
type Form struct {
	Items     []Item
	Erase     bool
	Alternate bool
	Restore   bool
	Alarm     bool
	Unmodify  bool
}

func (f Form) Record(s addr.Size, p *page.Page) ([]byte, api.Errno) {
	if p == nil {
		return nil, api.ErrNone
	}
	if !s.Valid() {
		return nil, api.ErrArg
	}
	record := []byte{write.Byte(f.command()), f.control()}
	for _, item := range f.Items {
		orders, e := item.bytes(s, p)
		if e != api.OK {
			return nil, e
		}
		record = append(record, orders...)
	}
	if len(record) > api.MaxRecord {
		return nil, api.ErrLong
	}
	return record, api.OK
}

func (f Form) command() int {
	switch {
	case !f.Erase:
		return write.Write
	case f.Alternate:
		return write.EraseAlternate
	}
	return write.EraseWrite
}

func (f Form) control() byte {
	control := byte(usualControl)
	if f.Restore {
		control |= restoreBit
	}
	if f.Alarm {
		control |= alarmBit
	}
	if f.Unmodify {
		control |= unmodifyBit
	}
	return control
}

// bytes has the orders of an item, and of its errors the one that comes first.
func (i Item) bytes(s addr.Size, p *page.Page) ([]byte, api.Errno) {
	b, e := i.Field.Byte()
	if e != api.OK || !i.on(s) {
		return nil, api.ErrArg
	}
	if slices.ContainsFunc(i.Ext, refused) {
		return nil, api.ErrOrder
	}
	codes, _, e := p.Codes(i.Text)
	if e != api.OK {
		return nil, e
	}
	if slices.ContainsFunc(codes, order.Is) {
		return nil, api.ErrOrder
	}
	// What is left is ErrLong, of attributes whose number does not fit into a byte.
	return order.Bytes(i.orders(s, b, codes))
}

func (i Item) on(s addr.Size) bool {
	return i.Row >= 0 && i.Row < s.Rows && i.Col >= 0 && i.Col < s.Cols
}

// refused reports whether an item may not have an attribute: one that there is not, or a field attribute, which it has already.
func refused(p attr.Pair) bool {
	return p.Check() != api.OK || p.Type == fieldType
}

func (i Item) orders(s addr.Size, b byte, codes []byte) []order.Op {
	field := order.Op{Kind: order.SF, FA: b}
	if len(i.Ext) > 0 {
		field = order.Op{Kind: order.SFE, Pairs: append([]attr.Pair{{Type: fieldType, Value: b}}, i.Ext...)}
	}
	l := []order.Op{{Kind: order.SBA, Addr: s.At(i.Row, i.Col)}, field}
	if i.Cursor {
		l = append(l, order.Op{Kind: order.IC})
	}
	if len(codes) > 0 {
		l = append(l, order.Op{Kind: order.Text, Text: codes})
	}
	return l
}

func (f Form) Answers(r entry.Report, s addr.Size, p *page.Page) map[int]string {
	if p == nil || !s.Valid() {
		return nil
	}
	last := make(map[int]int, len(r.Entries))
	for n, one := range r.Entries {
		last[one.Addr] = n
	}
	answers := make(map[int]string)
	for i, item := range f.Items {
		if n, ok := last[s.Wrap(s.At(item.Row, item.Col)+1)]; ok {
			answers[i] = p.Text(r.Entries[n].Text)
		}
	}
	return answers
}
