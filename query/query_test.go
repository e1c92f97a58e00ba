package query_test

import (
	"math/rand/v2"
	"strings"
	"testing"

	"vitrine/page"
	"vitrine/query"
)

// P22.1: the codes, in increasing order.
func TestCodes(t *testing.T) {
	if l := query.Codes(); string(l) != codes {
		t.Errorf("the codes are %x", l)
	}
	l := query.Codes()
	overwrite(l)
	if again := query.Codes(); string(again) != codes {
		t.Errorf("the codes are %x after another answer is overwritten", again)
	}
}

// P22.2: the name of every code.
func TestNames(t *testing.T) {
	names := map[byte]string{0x80: "Summary", 0x81: "UsableArea", 0x85: "CharacterSets", 0x86: "Color", 0x87: "Highlighting",
		0x88: "ReplyModes", 0xa6: "ImplicitPartition", 0xff: "Null"}
	for code := range 256 {
		if name := query.Name(byte(code)); name != names[byte(code)] {
			t.Errorf("the code %x is called %q, want %q", code, name, names[byte(code)])
		}
	}
}

// P22.1: every code of each model and each page; a nil page counts as page 37.
func TestReply(t *testing.T) {
	expect := func(code byte, model int, p *page.Page, want string) {
		t.Helper()
		if got, ok := query.Reply(code, model, p); string(got) != want || ok != (want != "") {
			t.Errorf("Reply of %x, model %d: %x, %t, want %x", code, model, got, ok, want)
		}
	}
	for code := range 256 {
		for model := range sizes {
			for number := range pages {
				expect(byte(code), model, newPage(t, number), wantReply(byte(code), model, number))
			}
			expect(byte(code), model, nil, wantReply(byte(code), model, 37))
		}
		for _, model := range wrongModels {
			expect(byte(code), model, newPage(t, 37), "")
			expect(byte(code), model, nil, "")
		}
	}
	for model := -300; model <= 300; model++ {
		if _, ok := query.Reply(0x88, model, nil); ok != (model >= 2 && model <= 5) {
			t.Errorf("Reply of model %d: %t", model, ok)
		}
	}
}

// expectAnswer compares what All returns, or List.
func expectAnswer(t *testing.T, got []byte, want string) {
	t.Helper()
	if string(got) != want {
		t.Fatalf("%x, want %x", got, want)
	}
}

// P22.1: the answer to a Query, written out once; that of each model and page; of a model that there is not it is the null reply.
func TestAll(t *testing.T) {
	expectAnswer(t, query.All(5, newPage(t, 37)), "\x88\x00\x0b\x81\x80\x80\x81\x85\x86\x87\x88\xa6"+
		"\x00\x17\x81\x81\x01\x00\x00\x84\x00\x1b\x01\x00\x0a\x02\xe5\x00\x02\x00\x6f\x09\x0c\x0d\xec"+
		"\x00\x17\x81\x85\x82\x00\x09\x0c\x00\x00\x00\x00\x07\x00\x00\x00\x00\x25\x02\xf1\x03\x01\x36"+
		"\x00\x16\x81\x86\x00\x08\x00\xf4\xf1\xf1\xf2\xf2\xf3\xf3\xf4\xf4\xf5\xf5\xf6\xf6\xf7\xf7"+
		"\x00\x0f\x81\x87\x05\x00\xf0\xf1\xf1\xf2\xf2\xf4\xf4\xf8\xf8\x00\x07\x81\x88\x00\x01\x02"+
		"\x00\x11\x81\xa6\x00\x00\x0b\x01\x00\x00\x50\x00\x18\x00\x84\x00\x1b")
	for model := range sizes {
		for number := range pages {
			expectAnswer(t, query.All(model, newPage(t, number)), wantAnswer(codes, model, number))
		}
		expectAnswer(t, query.All(model, nil), wantAnswer(codes, model, 37))
	}
	for _, model := range wrongModels {
		expectAnswer(t, query.All(model, newPage(t, 500)), nullAnswer)
		expectAnswer(t, query.All(model, nil), nullAnswer)
	}
}

// P22.1: request 0 asks for the codes of its list, in whatever order they are; each other request for all.
func TestList(t *testing.T) {
	p := newPage(t, 273)
	lists := []string{"", "\x88", "\x88\x99", "\x99", "\xff", "\x00", "\x01\x82\xff\x89", "\xa6\x80", "\x88\x87\x86\x85\x81\x80\xa6", "\x81\x81", "\xa6\x85\xa6\x85\x85", codes, codes + codes,
		"\xff\x87\xff", strings.Repeat("\x81", 9000)}
	for request := range 256 {
		for _, asked := range lists {
			want := wantAnswer(codes, 4, 273)
			if request == 0 {
				want = wantAnswer(asked, 4, 273)
			}
			expectAnswer(t, query.List(byte(request), []byte(asked), 4, p), want)
			for _, model := range wrongModels {
				expectAnswer(t, query.List(byte(request), []byte(asked), model, p), nullAnswer)
			}
		}
		want := wantAnswer(codes, 3, 37)
		if request == 0 {
			want = nullAnswer
		}
		expectAnswer(t, query.List(byte(request), nil, 3, nil), want)
		expectAnswer(t, query.List(byte(request), []byte{}, 3, nil), want)
	}
	for code := range 256 {
		expectAnswer(t, query.List(0, []byte{byte(code)}, 2, p), wantAnswer(string([]byte{byte(code)}), 2, 273))
	}
}

// P22.1: lists by chance.
func TestListByChance(t *testing.T) {
	r := rand.New(rand.NewPCG(22, 1))
	for range 20000 {
		asked := ""
		for range r.IntN(9) {
			asked += string([]byte{(codes + "\x00\x82\x84\xff")[r.IntN(11)]})
		}
		model := 2 + r.IntN(4)
		for number := range pages {
			expectAnswer(t, query.List(0, []byte(asked), model, newPage(t, number)), wantAnswer(asked, model, number))
		}
	}
}

// The rule of memory: the list of codes stays, and no two answers share memory.
func TestAnswersShareNothing(t *testing.T) {
	p := newPage(t, 1047)
	for _, build := range []func(codes []byte) []byte{
		func(codes []byte) []byte { return query.List(0, codes, 5, p) },
		func(codes []byte) []byte { return query.List(0x40, codes, 5, p) },
		func(codes []byte) []byte { return query.List(0, codes, 6, p) },
		func([]byte) []byte { return query.All(5, p) },
		func([]byte) []byte { return query.All(6, p) },
		func([]byte) []byte { l, _ := query.Reply(0x80, 5, p); return l },
		func([]byte) []byte { l, _ := query.Reply(0x85, 5, p); return l },
		func([]byte) []byte { l, _ := query.Reply(0x87, 5, nil); return l },
	} {
		asked := spare("\xa6\x88\x80")
		first, second := build(asked), build(asked)
		want := string(second)
		overwrite(first)
		if !untouched(asked, "\xa6\x88\x80") || string(second) != want || string(build(asked)) != want {
			t.Errorf("%x, %x after another answer is overwritten, want %x", asked, second, want)
		}
		overwrite(asked)
		if string(second) != want {
			t.Errorf("%x after the codes are overwritten, want %x", second, want)
		}
	}
	if p.Number() != 1047 {
		t.Errorf("the page is %d", p.Number())
	}
}
