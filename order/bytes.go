package order

import (
	"bytes"
	"slices"

	"vitrine/addr"
	"vitrine/api"
	"vitrine/attr"
)

func Bytes(l []Op) ([]byte, api.Errno) {
	var p []byte
	for _, o := range l {
		one, e := o.Bytes()
		if e != api.OK {
			return nil, e
		}
		p = append(p, one...)
	}
	return p, api.OK
}

func (o Op) Bytes() ([]byte, api.Errno) {
	if o.Kind == Text {
		return textBytes(o.Text)
	}
	rest, e := o.rest()
	if e != api.OK {
		return nil, e
	}
	return append([]byte{byte(o.Kind)}, rest...), api.OK
}

func textBytes(text []byte) ([]byte, api.Errno) {
	if len(text) == 0 || slices.ContainsFunc(text, Is) {
		return nil, api.ErrOrder
	}
	return bytes.Clone(text), api.OK
}

// rest is what follows the byte of an order.
func (o Op) rest() ([]byte, api.Errno) {
	switch o.Kind {
	case PT, IC:
		return nil, api.OK
	case SBA, EUA:
		return addr.Encode(addressBits, o.Addr)
	case RA:
		return o.repeated()
	case SF:
		return []byte{o.FA}, api.OK
	case SA:
		return onePair(o.Pairs)
	case SFE, MF:
		return attr.Bytes(o.Pairs)
	case GE:
		return codeBytes(o.Code)
	}
	return nil, api.ErrArg
}

// repeated asks for the address first, whose error counts before that of the code.
func (o Op) repeated() ([]byte, api.Errno) {
	p, e := addr.Encode(addressBits, o.Addr)
	if e != api.OK {
		return nil, e
	}
	if o.Graph {
		p = append(p, GE)
	}
	code, e := codeBytes(o.Code)
	return append(p, code...), e
}

func codeBytes(code byte) ([]byte, api.Errno) {
	if Is(code) {
		return nil, api.ErrOrder
	}
	return []byte{code}, api.OK
}

func onePair(l []attr.Pair) ([]byte, api.Errno) {
	if len(l) != 1 || l[0].Check() != api.OK {
		return nil, api.ErrOrder
	}
	return []byte{l[0].Type, l[0].Value}, api.OK
}
