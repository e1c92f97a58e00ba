package write

import (
	"vitrine/api"
	"vitrine/attr"
	"vitrine/erase"
	"vitrine/field"
	"vitrine/order"
	"vitrine/space"
)

// graphic is the character set of graphic escapes.
const graphic = 0xf1

// writer is what the orders of a record go by, beside the screen.
type writer struct {
	screen *space.Space
	at     int      // the buffer address
	look   api.Cell // a cell with the current display attributes, and without a character
	wrote  bool     // whether the preceding element has written characters, which PT asks for
}

// Orders asks of each element whether it can be executed before it executes it, so that one that fails changes nothing.
func Orders(s *space.Space, p []byte, n int) (int, int, api.Errno) {
	if s == nil {
		return 0, 0, api.ErrNone
	}
	w := writer{screen: s, at: s.Size().Wrap(n)}
	pieces := 0
	failed := api.OK
execution:
	for o, e := range order.Parse(p) {
		switch {
		case e != api.OK:
			failed = e
			break execution
		case o.Addr >= s.Size().Cells():
			failed = api.ErrAddr
			break execution
		case o.Kind == order.MF && !s.At(w.at).Attr:
			failed = api.ErrOrder
			break execution
		}
		w.execute(o)
		pieces++
	}
	return w.at, pieces, failed
}

// execute goes through one element that can be executed.
func (w *writer) execute(o order.Op) {
	switch o.Kind {
	case order.Text:
		for _, code := range o.Text {
			w.put(w.character(code, false))
		}
	case order.GE:
		w.put(w.character(o.Code, true))
	case order.SBA:
		w.at = o.Addr
	case order.EUA:
		erase.Range(w.screen, w.at, o.Addr)
		w.at = o.Addr
	case order.RA:
		erase.Repeat(w.screen, w.at, o.Addr, w.character(o.Code, o.Graph))
		w.at = o.Addr
	case order.SF:
		w.put(api.Cell{Attr: true, FA: o.FA})
	case order.SFE:
		w.put(applied(api.Cell{Attr: true}, o.Pairs))
	case order.MF:
		w.put(applied(w.screen.At(w.at), o.Pairs))
	case order.SA:
		w.look = applied(w.look, o.Pairs)
	case order.IC:
		w.screen.Place(w.at)
	case order.PT:
		w.tab()
	}
	w.wrote = o.Kind == order.Text || o.Kind == order.GE
}

// put sets the cell at the buffer address, and goes on to the next one.
func (w *writer) put(c api.Cell) {
	w.screen.Set(w.at, c)
	w.at = w.screen.Size().Wrap(w.at + 1)
}

// character is a code with the current display attributes.
func (w *writer) character(code byte, escape bool) api.Cell {
	c := w.look
	c.Char = code
	if escape {
		c.Set = graphic
	}
	return c
}

// applied asks for no error, since attributes that were parsed are valid.
func applied(c api.Cell, pairs []attr.Pair) api.Cell {
	for _, pair := range pairs {
		c, _ = pair.Apply(c)
	}
	return c
}

// tab goes to the next first position; one that is behind, around the screen, does not count.
func (w *writer) tab() {
	if w.wrote {
		w.null()
	}
	next := field.Next(w.screen, w.at)
	if next <= w.at {
		next = 0
	}
	w.at = next
}

// null takes the characters away from the buffer address on, also those of a protected field.
func (w *writer) null() {
	for n := w.at; n < w.screen.Size().Cells() && !w.screen.At(n).Attr; n++ {
		w.screen.Put(n, 0)
	}
}
