package read

import (
	"vitrine/addr"
	"vitrine/api"
	"vitrine/attr"
	"vitrine/order"
	"vitrine/space"
)

// The reply modes.
const (
	fieldMode = iota
	extendedMode
	characterMode
)

const (
	addressBits = 12
	graphic     = 0xf1 // the character set of graphic escapes
	null        = 0    // the code of a position without a character
	substitute  = 0x3f // is sent for a character that the host would take for an order
)

// data are the bytes that are sent.
type data struct {
	bytes []byte
	mode  int
	last  api.Cell // the character that was sent last, whose display attributes hold for the next one
}

func check(s *space.Space, mode int) api.Errno {
	if s == nil {
		return api.ErrNone
	}
	if mode < fieldMode || mode > characterMode {
		return api.ErrArg
	}
	return api.OK
}

// begin has the AID and the address of the cursor.
func begin(s *space.Space, aid byte, mode int) (*data, api.Errno) {
	if e := check(s, mode); e != api.OK {
		return nil, e
	}
	d := &data{bytes: []byte{aid}, mode: mode}
	d.address(s.Cursor())
	return d, api.OK
}

// address asks for no error, since no screen has more positions than an address of 12 bits can tell.
func (d *data) address(n int) {
	p, _ := addr.Encode(addressBits, n)
	d.bytes = append(d.bytes, p...)
}

func (d *data) begins(n int) {
	d.bytes = append(d.bytes, order.SBA)
	d.address(n)
}

func (d *data) cell(c api.Cell) {
	if c.Attr {
		d.attribute(c)
		return
	}
	d.character(c)
}

func (d *data) attribute(c api.Cell) {
	if d.mode == fieldMode {
		// The display is one that there is, since it comes from a cell, so that there is no error.
		b, _ := attr.Of(c.FA).Byte()
		d.bytes = append(d.bytes, order.SF, b)
		return
	}
	l := attr.Pairs(c)
	d.bytes = append(d.bytes, order.SFE, byte(len(l)))
	for _, pair := range l {
		d.pair(pair)
	}
}

// pair does not ask whether there is such an attribute: a cell is sent as it is.
func (d *data) pair(p attr.Pair) {
	d.bytes = append(d.bytes, p.Type, p.Value)
}

// modified is for the reads that leave nulls out.
func (d *data) modified(c api.Cell) {
	if c.Char != null {
		d.character(c)
	}
}

func (d *data) character(c api.Cell) {
	if d.mode == characterMode {
		d.change(c)
	} else if c.Set == graphic {
		d.bytes = append(d.bytes, order.GE)
	}
	code := c.Char
	if order.Is(code) {
		code = substitute
	}
	d.bytes = append(d.bytes, code)
}

// change tells how a character's display attributes differ from those of the one before it.
func (d *data) change(c api.Cell) {
	for _, pair := range attr.Diff(d.last, c) {
		d.bytes = append(d.bytes, order.SA)
		d.pair(pair)
	}
	d.last = c
}
