package query_test

import (
	"math"
	"strings"
	"testing"

	"vitrine/api"
	"vitrine/page"
)

// codes are those of the replies, in increasing order.
const codes = "\x80\x81\x85\x86\x87\x88\xa6"

// nullAnswer is the answer that has the null reply.
const nullAnswer = "\x88\x00\x04\x81\xff"

// wrongModels are no models; the lowest bytes of some would be.
var wrongModels = []int{math.MinInt, math.MinInt + 2, -254, -5, -2, -1, 0, 1, 6, 7, 255, 258, 261, 1<<32 + 2, 1<<62 + 5, math.MaxInt}

// pages are the numbers of all pages, each with its two bytes.
var pages = map[int]string{37: "\x00\x25", 273: "\x01\x11", 297: "\x01\x29", 500: "\x01\xf4", 1047: "\x04\x17", 1140: "\x04\x74"}

// sizes are those of the models: the columns and the rows in two bytes each, and their product.
var sizes = map[int][3]string{
	2: {"\x00\x50", "\x00\x18", "\x07\x80"},
	3: {"\x00\x50", "\x00\x20", "\x0a\x00"},
	4: {"\x00\x50", "\x00\x2b", "\x0d\x70"},
	5: {"\x00\x84", "\x00\x1b", "\x0d\xec"},
}

func newPage(t *testing.T, number int) *page.Page {
	t.Helper()
	p, e := page.New(number)
	if e != api.OK {
		t.Fatal(e)
	}
	return p
}

// wantReply is a reply as the document lists it, of a model and a page that there are; it is empty for other codes.
func wantReply(code byte, model, number int) string {
	cols, rows, cells := sizes[model][0], sizes[model][1], sizes[model][2]
	switch code {
	case 0x80:
		return "\x00\x0b\x81\x80" + codes
	case 0x81:
		return "\x00\x17\x81\x81\x01\x00" + cols + rows + "\x01\x00\x0a\x02\xe5\x00\x02\x00\x6f\x09\x0c" + cells
	case 0x85:
		return "\x00\x17\x81\x85\x82\x00\x09\x0c\x00\x00\x00\x00\x07\x00\x00\x00" + pages[number] + "\x02\xf1\x03\x01\x36"
	case 0x86:
		return "\x00\x16\x81\x86\x00\x08\x00\xf4\xf1\xf1\xf2\xf2\xf3\xf3\xf4\xf4\xf5\xf5\xf6\xf6\xf7\xf7"
	case 0x87:
		return "\x00\x0f\x81\x87\x05\x00\xf0\xf1\xf1\xf2\xf2\xf4\xf4\xf8\xf8"
	case 0x88:
		return "\x00\x07\x81\x88\x00\x01\x02"
	case 0xa6:
		return "\x00\x11\x81\xa6\x00\x00\x0b\x01\x00\x00\x50\x00\x18" + cols + rows
	}
	return ""
}

// wantAnswer is the answer with the replies for some codes.
func wantAnswer(asked string, model, number int) string {
	answer := "\x88"
	for _, code := range []byte(codes) {
		if strings.IndexByte(asked, code) >= 0 {
			answer += wantReply(code, model, number)
		}
	}
	if answer == "\x88" {
		return nullAnswer
	}
	return answer
}

// whole writes a field with its length in front.
func whole(id byte, data string) string {
	n := len(data) + 3
	return string([]byte{byte(n / 256), byte(n % 256), id}) + data
}

// reply is one with that code and these contents.
func reply(code byte, contents string) string {
	return whole(0x81, string([]byte{code})+contents)
}

// overwrite fills a slice and its spare capacity.
func overwrite(p []byte) {
	p = p[:cap(p)]
	for i := range p {
		p[i] = 0x99
	}
}

// spare returns a copy with capacity that holds a reply.
func spare(s string) []byte {
	return append([]byte(s), "\x00\x04\x81\x80"...)[:len(s)]
}

func untouched(p []byte, s string) bool {
	return string(p) == s && string(p[:cap(p)][:len(s)+4]) == s+"\x00\x04\x81\x80"
}
