package order

import (
	"bytes"
	"iter"
	"slices"

	"vitrine/addr"
	"vitrine/api"
	"vitrine/attr"
)

// Parse copies what it is given, since the iterator may be used when the caller has overwritten it.
func Parse(p []byte) iter.Seq2[Op, api.Errno] {
	p = bytes.Clone(p)
	return func(yield func(Op, api.Errno) bool) {
		for n := 0; n < len(p); {
			o, used, e := first(p[n:])
			if !yield(o, e) || e != api.OK {
				return
			}
			n += used
		}
	}
}

func All(p []byte) ([]Op, int, api.Errno) {
	var l []Op
	n := 0
	for n < len(p) {
		o, used, e := first(p[n:])
		if e != api.OK {
			return l, n, e
		}
		l = append(l, o)
		n += used
	}
	return l, n, api.OK
}

// first parses what p, which is not empty, begins with, and returns the number of its bytes.
func first(p []byte) (Op, int, api.Errno) {
	if !Is(p[0]) {
		length := textLength(p)
		return Op{Kind: Text, Text: bytes.Clone(p[:length])}, length, api.OK
	}
	o, used, e := behind(int(p[0]), p[1:])
	if e != api.OK {
		return Op{}, 0, e
	}
	return o, 1 + used, api.OK
}

func textLength(p []byte) int {
	length := slices.IndexFunc(p, Is)
	if length < 0 {
		return len(p)
	}
	return length
}

// behind parses what follows the byte of an order; beside an error its other results mean nothing.
func behind(kind int, p []byte) (Op, int, api.Errno) {
	o := Op{Kind: kind}
	used := 0
	e := api.OK
	switch kind {
	case SBA, EUA:
		o.Addr, e = addr.Decode(addressBits, p)
		used = 2
	case RA:
		return repeat(p)
	case SF:
		o.FA, e = single(p)
		used = 1
	case SA:
		o.Pairs, e = pair(p)
		used = 2
	case SFE, MF:
		o.Pairs, used, e = attr.Parse(p)
	case GE:
		o.Code, e = code(p)
		used = 1
	}
	return o, used, e
}

// repeat asks for the code only behind a valid address, since the error that is found first counts.
func repeat(p []byte) (Op, int, api.Errno) {
	n, e := addr.Decode(addressBits, p)
	if e != api.OK {
		return Op{}, 0, e
	}
	o := Op{Kind: RA, Addr: n}
	used := 2
	if len(p) > used && p[used] == GE {
		o.Graph = true
		used++
	}
	o.Code, e = code(p[used:])
	return o, used + 1, e
}

func single(p []byte) (byte, api.Errno) {
	if len(p) == 0 {
		return 0, api.ErrShort
	}
	return p[0], api.OK
}

func code(p []byte) (byte, api.Errno) {
	b, e := single(p)
	if e == api.OK && Is(b) {
		return 0, api.ErrOrder
	}
	return b, e
}

// pair is the attribute of SA, which has no number in front of it.
func pair(p []byte) ([]attr.Pair, api.Errno) {
	if len(p) < 2 {
		return nil, api.ErrShort
	}
	one := attr.Pair{Type: p[0], Value: p[1]}
	return []attr.Pair{one}, one.Check()
}
