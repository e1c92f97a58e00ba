package entry

import (
	"vitrine/api"
	"vitrine/attr"
	"vitrine/order"
)

// What a record begins with that replays a screen.
const (
	eraseWrite     = 0xf5
	eraseAlternate = 0x7e
	resetControl   = 0x40
)

// fieldType is the extended attribute with the byte of a field attribute.
const fieldType = 0xc0

// graphic is the character set of graphic escapes.
const graphic = 0xf1

// Mark is an attribute and its place.
type Mark struct {
	Place int
	Cell  api.Cell
}

// screen is the cells that were read so far.
type screen struct {
	cells []api.Cell
	look  api.Cell // a cell with the current display attributes, and without a character
}

func Buffer(p []byte) ([]api.Cell, int, api.Errno) {
	cursor, l, e := inboundBuffer(p)
	if e != api.OK {
		return nil, 0, e
	}
	var s screen
	for _, o := range l {
		s.add(o)
	}
	return s.cells, cursor, api.OK
}

func inboundBuffer(p []byte) (int, []order.Op, api.Errno) {
	return inbound(p, order.SF, order.SFE, order.SA, order.Text, order.GE)
}

func (s *screen) add(o order.Op) {
	switch o.Kind {
	case order.SF:
		s.attribute(attr.Pair{Type: fieldType, Value: o.FA})
	case order.SFE:
		s.attribute(o.Pairs...)
	case order.SA:
		s.look = applied(s.look, o.Pairs)
	case order.Text:
		for _, code := range o.Text {
			s.character(code, s.look.Set)
		}
	case order.GE:
		s.character(o.Code, graphic)
	}
}

func (s *screen) attribute(pairs ...attr.Pair) {
	s.cells = append(s.cells, applied(api.Cell{Attr: true}, pairs))
}

func (s *screen) character(code, set byte) {
	c := s.look
	c.Char, c.Set = code, set
	s.cells = append(s.cells, c)
}

// applied asks for no error, since attributes that were parsed are valid.
func applied(c api.Cell, pairs []attr.Pair) api.Cell {
	for _, pair := range pairs {
		c, _ = pair.Apply(c)
	}
	return c
}

// Replay sends the orders as they are, since those of a Read Buffer are orders of a write data stream, too.
func Replay(p []byte, alternate bool) ([]byte, api.Errno) {
	cursor, _, e := inboundBuffer(p)
	if e != api.OK {
		return nil, e
	}
	place, e := order.Bytes([]order.Op{{Kind: order.SBA, Addr: cursor}, {Kind: order.IC}})
	if e != api.OK {
		return nil, e
	}
	record := []byte{eraseWrite, resetControl}
	if alternate {
		record[0] = eraseAlternate
	}
	record = append(record, p[frontLength:]...)
	return append(record, place...), api.OK
}

func Fields(l []api.Cell) []Mark {
	var marks []Mark
	for n, c := range l {
		if c.Attr {
			marks = append(marks, Mark{Place: n, Cell: c})
		}
	}
	return marks
}
