package attr

import (
	"vitrine/addr"
	"vitrine/api"
)

// The types of extended attributes.
const (
	resetType = 0x00
	highType  = 0x41
	colorType = 0x42
	setType   = 0x43
	fieldType = 0xc0
)

// maxPairs is what a byte with their number can tell.
const maxPairs = 255

// Pair is an extended attribute.
type Pair struct {
	Type  byte
	Value byte
}

func (p Pair) Check() api.Errno {
	if !p.known() {
		return api.ErrOrder
	}
	return api.OK
}

func (p Pair) known() bool {
	v := p.Value
	switch p.Type {
	case resetType:
		return v == 0
	case highType:
		return v == 0 || v == 0xf0 || v == 0xf1 || v == 0xf2 || v == 0xf4 || v == 0xf8
	case colorType:
		return v == 0 || v >= 0xf1 && v <= 0xf7
	case setType:
		return v == 0 || v == 0xf1
	case fieldType:
		return true // of a byte that is received only the lower six bits count, so that all are good
	}
	return false
}

func (p Pair) Apply(c api.Cell) (api.Cell, api.Errno) {
	if e := p.Check(); e != api.OK {
		return api.Cell{}, e
	}
	switch p.Type {
	case resetType:
		c.High, c.Color, c.Set = 0, 0, 0
	case highType:
		c.High = p.Value
	case colorType:
		c.Color = p.Value
	case setType:
		c.Set = p.Value
	case fieldType:
		if c.Attr {
			c.FA = p.Value & usedBits
		}
	}
	return c, api.OK
}

// Parse asks for the length of all pairs first: where some are missing, the others do not matter.
func Parse(p []byte) ([]Pair, int, api.Errno) {
	if len(p) == 0 {
		return nil, 0, api.ErrShort
	}
	used := 1 + 2*int(p[0])
	if len(p) < used {
		return nil, 0, api.ErrShort
	}
	l := make([]Pair, 0, p[0])
	for i := 1; i < used; i += 2 {
		pair := Pair{Type: p[i], Value: p[i+1]}
		if e := pair.Check(); e != api.OK {
			return nil, 0, e
		}
		l = append(l, pair)
	}
	return l, used, api.OK
}

func Bytes(l []Pair) ([]byte, api.Errno) {
	if len(l) > maxPairs {
		return nil, api.ErrLong
	}
	p := make([]byte, 0, 1+2*len(l))
	p = append(p, byte(len(l)))
	for _, pair := range l {
		if e := pair.Check(); e != api.OK {
			return nil, e
		}
		p = append(p, pair.Type, pair.Value)
	}
	return p, api.OK
}

func Pairs(c api.Cell) []Pair {
	shown := Diff(api.Cell{}, c)
	if !c.Attr {
		return shown
	}
	field := Pair{Type: fieldType, Value: addr.Six(int(c.FA & usedBits))}
	return append([]Pair{field}, shown...)
}

// display has the display attributes of a cell in the order of their types, from highType on.
func display(c api.Cell) [3]byte {
	return [3]byte{c.High, c.Color, c.Set}
}

// Diff asks for equality first, since most cells look like the one before them.
func Diff(a, b api.Cell) []Pair {
	from, to := display(a), display(b)
	if from == to {
		return nil
	}
	var l []Pair
	for i, value := range to {
		if value != from[i] {
			l = append(l, Pair{Type: highType + byte(i), Value: value})
		}
	}
	return l
}
