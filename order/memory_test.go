package order_test

import (
	"bytes"
	"slices"
	"testing"

	"vitrine/api"
	"vitrine/attr"
	"vitrine/order"
)

// overwrite fills a slice and its spare capacity.
func overwrite(p []byte) {
	p = p[:cap(p)]
	for i := range p {
		p[i] = 0x99
	}
}

func overwritePairs(l []attr.Pair) {
	l = l[:cap(l)]
	for i := range l {
		l[i] = attr.Pair{Type: 0x99, Value: 0x99}
	}
}

func overwriteOps(l []order.Op) {
	for _, o := range l {
		overwrite(o.Text)
		overwritePairs(o.Pairs)
	}
	clear(l[:cap(l)])
}

// spare returns a copy with capacity that holds bytes of orders.
func spare(s string) []byte {
	return append([]byte(s), "\x11\x40\x40AB\x13"...)[:len(s)]
}

const sample = "AB\x29\x02\x42\xf2\x41\xf1CD\x28\x43\xf1\x2c\x01\xc0\x60E\x08\xc5\x3c\x40\x50\x08\xc4F\x11\x40\xc1GH"

// sampleOps is parsed from memory of its own.
func sampleOps() []order.Op {
	l, _, _ := order.All([]byte(sample))
	return l
}

// P16.1 and P2: the bytes that are passed in are not changed and not kept; they may be overwritten before and while Parse is ranged over.
func TestParseKeepsNothing(t *testing.T) {
	want := sampleOps()
	p := spare(sample)
	l, _, _ := order.All(p)
	each := order.Parse(p)
	if string(p) != sample || !bytes.Equal(p[len(p):cap(p)], spare(sample)[len(sample):cap(p)]) {
		t.Errorf("the bytes are %x after the calls", p[:cap(p)])
	}
	overwrite(p)
	if !sameOps(l, want) {
		t.Errorf("All is %v after its argument is overwritten", l)
	}
	for range 2 {
		var got []order.Op
		for o, e := range each {
			if e != api.OK {
				t.Fatalf("the error %d", e)
			}
			got = append(got, order.Op{Kind: o.Kind, Addr: o.Addr, Code: o.Code, Graph: o.Graph, FA: o.FA,
				Pairs: slices.Clone(o.Pairs), Text: bytes.Clone(o.Text)})
			overwrite(o.Text)
			overwritePairs(o.Pairs)
		}
		if !sameOps(got, want) {
			t.Errorf("Parse is %v, want %v", got, want)
		}
	}
}

// P16.1: no two slices of an answer share memory, nor do two answers.
func TestAnswersShareNothing(t *testing.T) {
	want := sampleOps()
	for i := range want {
		p := []byte(sample)
		l, _, _ := order.All(p)
		other, _, _ := order.All(p)
		overwrite(l[i].Text)
		overwritePairs(l[i].Pairs)
		l[i] = want[i]
		if !sameOps(l, want) || !sameOps(other, want) || string(p) != sample {
			t.Errorf("after element %d is overwritten: %v, %v, %x", i, l, other, p)
		}
	}
	p := []byte(sample)
	l, _, _ := order.All(p)
	overwriteOps(l)
	if again, _, _ := order.All(p); !sameOps(again, want) {
		t.Errorf("All is %v after its answer is overwritten", again)
	}
}

// P16.2: what is encoded is new memory, and the orders are as they were.
func TestBytesShareNothing(t *testing.T) {
	for _, o := range sampleOps() {
		o.Text = append(o.Text, "XY"...)[:len(o.Text)]
		o.Pairs = append(o.Pairs, attr.Pair{Type: 0x41}, attr.Pair{})[:len(o.Pairs)]
		text, pairs := bytes.Clone(o.Text[:cap(o.Text)]), slices.Clone(o.Pairs[:cap(o.Pairs)])
		list := append(make([]order.Op, 0, 4), o)
		first, _ := o.Bytes()
		want := string(first)
		second, _ := o.Bytes()
		third, _ := order.Bytes(list)
		overwrite(first)
		if string(second) != want || string(third) != want {
			t.Errorf("Bytes is %x, %x after another answer is overwritten, want %x", second, third, want)
		}
		overwrite(third)
		if !bytes.Equal(o.Text[:cap(o.Text)], text) || !slices.Equal(o.Pairs[:cap(o.Pairs)], pairs) {
			t.Errorf("%v has changed", o)
		}
		if !sameOp(list[0], o) || !sameOp(list[:2][1], order.Op{}) {
			t.Errorf("the list %v has changed", list[:cap(list)])
		}
		overwrite(o.Text)
		overwritePairs(o.Pairs)
		if string(second) != want {
			t.Errorf("Bytes is %x after its order is overwritten, want %x", second, want)
		}
	}
}
