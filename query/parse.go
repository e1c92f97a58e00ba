package query

import (
	"slices"

	"vitrine/api"
	"vitrine/sfield"
)

func Parse(p []byte) ([]byte, api.Errno) {
	l, e := replies(p)
	if e != api.OK {
		return nil, e
	}
	var codes []byte
	for _, data := range l {
		codes = append(codes, data[0])
	}
	return codes, api.OK
}

// replies returns the data of each reply, which begin with its code.
func replies(p []byte) ([][]byte, api.Errno) {
	if len(p) == 0 {
		return nil, api.ErrShort
	}
	if p[0] != aid {
		return nil, api.ErrForm
	}
	var l [][]byte
	for f, e := range sfield.Fields(p[1:]) {
		if e != api.OK {
			return nil, e
		}
		if f.ID != replyID || len(f.Data) == 0 {
			return nil, api.ErrForm
		}
		l = append(l, f.Data)
	}
	return l, api.OK
}

// find returns the data of the first reply with a code, if it has at least that many bytes.
func find(p []byte, code byte, length int) ([]byte, bool) {
	l, e := replies(p)
	if e != api.OK {
		return nil, false
	}
	n := slices.IndexFunc(l, func(data []byte) bool { return data[0] == code })
	if n < 0 || len(l[n]) < length {
		return nil, false
	}
	return l[n], true
}

func numberAt(data []byte, n int) int {
	return int(data[n])<<8 | int(data[n+1])
}

func Size(p []byte) (int, int, bool) {
	data, ok := find(p, usableArea, 7)
	if !ok {
		return 0, 0, false
	}
	return numberAt(data, 5), numberAt(data, 3), true
}

func Number(p []byte) (int, bool) {
	data, ok := find(p, characterSets, 15)
	if !ok {
		return 0, false
	}
	return numberAt(data, 13), true
}
