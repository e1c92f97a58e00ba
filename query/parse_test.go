package query_test

import (
	"math/rand/v2"
	"strings"
	"testing"

	"vitrine/api"
	"vitrine/query"
)

// expectParse compares what Parse returns; beside an error, Size and Number are to return false.
func expectParse(t *testing.T, p, want string, e api.Errno) {
	t.Helper()
	got, errno := query.Parse([]byte(p))
	if string(got) != want || errno != e {
		t.Fatalf("Parse of %.80x: %x, %d, want %x, %d", p, got, errno, want, e)
	}
	if e != api.OK {
		expectSize(t, p, 0, 0, false)
		expectNumber(t, p, 0, false)
	}
}

func expectSize(t *testing.T, p string, rows, cols int, ok bool) {
	t.Helper()
	if r, c, found := query.Size([]byte(p)); r != rows || c != cols || found != ok {
		t.Fatalf("Size of %.80x: %d, %d, %t, want %d, %d, %t", p, r, c, found, rows, cols, ok)
	}
}

func expectNumber(t *testing.T, p string, number int, ok bool) {
	t.Helper()
	if n, found := query.Number([]byte(p)); n != number || found != ok {
		t.Fatalf("Number of %.80x: %d, %t, want %d, %t", p, n, found, number, ok)
	}
}

// P22.2: what All and List return is parsed, with the size of the model and the page's number.
func TestParseAnswers(t *testing.T) {
	rows := map[int]int{2: 24, 3: 32, 4: 43, 5: 27}
	cols := map[int]int{2: 80, 3: 80, 4: 80, 5: 132}
	for model := range sizes {
		for number := range pages {
			p := newPage(t, number)
			all := string(query.All(model, p))
			expectParse(t, all, codes, api.OK)
			expectSize(t, all, rows[model], cols[model], true)
			expectNumber(t, all, number, true)
			some := string(query.List(0, []byte("\xa6\x85"), model, p))
			expectParse(t, some, "\x85\xa6", api.OK)
			expectSize(t, some, 0, 0, false)
			expectNumber(t, some, number, true)
			some = string(query.List(0, []byte("\x99\x88\x81"), model, p))
			expectParse(t, some, "\x81\x88", api.OK)
			expectSize(t, some, rows[model], cols[model], true)
			expectNumber(t, some, 0, false)
		}
		null := string(query.List(0, nil, model, nil))
		expectParse(t, null, "\xff", api.OK)
		expectSize(t, null, 0, 0, false)
		expectNumber(t, null, 0, false)
	}
}

// P22.2: replies of every code, in any order; errors, and which comes first.
func TestParse(t *testing.T) {
	for _, v := range []struct {
		p    string
		want string
		e    api.Errno
	}{
		{"", "", api.ErrShort},
		{"\x88", "", api.OK},
		{"\x87", "", api.ErrForm},
		{"\x00", "", api.ErrForm},
		{"\x7d\x40\x40", "", api.ErrForm},
		{"\x81" + reply(0x80, ""), "", api.ErrForm},
		{"\x7d" + reply(0x80, "") + "\x00", "", api.ErrForm},
		{"\x88" + reply(0x80, ""), "\x80", api.OK},
		{"\x88" + reply(0x80, "\x01\x02") + reply(0x99, "") + reply(0x80, "") + reply(0x00, "\x81"), "\x80\x99\x80\x00", api.OK},
		{"\x88" + whole(0x81, ""), "", api.ErrForm},
		{"\x88\x00\x00\x81", "", api.ErrForm},
		{"\x88\x00\x00\x81\x88", "\x88", api.OK},
		{"\x88\x00\x00\x81\x88\x00\x04\x81\x80", "\x88", api.OK},
		{"\x88" + whole(0x80, "\x80"), "", api.ErrForm},
		{"\x88" + whole(0x82, "\x80"), "", api.ErrForm},
		{"\x88" + whole(0x01, "\xff\x02"), "", api.ErrForm},
		{"\x88" + reply(0x80, "") + whole(0x81, ""), "", api.ErrForm},
		{"\x88" + reply(0x80, "") + whole(0x88, "\x80"), "", api.ErrForm},
		{"\x88" + whole(0x88, "\x80") + reply(0x80, ""), "", api.ErrForm},
		{"\x88\x00", "", api.ErrShort},
		{"\x88\x00\x04", "", api.ErrShort},
		{"\x88\x00\x04\x81", "", api.ErrShort},
		{"\x88\x00\x05\x81\x80", "", api.ErrShort},
		{"\x88\x00\x02\x81\x80", "", api.ErrShort},
		{"\x88\x00\x01\x77\x80", "", api.ErrShort},
		{"\x88\x00\x05\x77\x80", "", api.ErrShort},
		{"\x88" + reply(0x80, "") + "\x00", "", api.ErrShort},
		{"\x88" + reply(0x80, "") + "\x00\x05\x81\x80", "", api.ErrShort},
		{"\x88" + whole(0x81, "") + "\x00", "", api.ErrForm},
		{"\x88" + whole(0x77, "\x80") + "\x00\x02", "", api.ErrForm},
		{"\x88" + reply(0x80, "") + whole(0x77, "\x80") + "\x00\x02", "", api.ErrForm},
	} {
		expectParse(t, v.p, v.want, v.e)
	}
	if l, e := query.Parse(nil); len(l) != 0 || e != api.ErrShort {
		t.Errorf("Parse of nil: %x, %d", l, e)
	}
	for b := range 256 {
		one := string([]byte{byte(b)})
		expectParse(t, "\x88"+reply(byte(b), "x"), one, api.OK)
		if b != 0x88 {
			expectParse(t, one+reply(0x80, ""), "", api.ErrForm)
			expectParse(t, one, "", api.ErrForm)
		}
		if b != 0x81 {
			expectParse(t, "\x88"+whole(byte(b), "\x80"), "", api.ErrForm)
		}
	}
	expectParse(t, "\x88"+strings.Repeat(reply(0xff, ""), 5000), strings.Repeat("\xff", 5000), api.OK)
}

// P22.2: the first Usable Area and the first Character Sets, which are too short by one byte, just long enough, or longer, and what Parse refuses.
func TestSizeAndNumber(t *testing.T) {
	area := "\x01\x02\x03\x04\x05\x06\x07\x08"
	sets := "\x01\x02\x03\x04\x05\x06\x07\x08\x09\x0a\x0b\x0c\x0d\x0e\x0f\x10"
	for n := range len(area) + 1 {
		p := "\x88" + reply(0x81, area[:n])
		if n < 6 {
			expectSize(t, p, 0, 0, false)
			expectSize(t, p+reply(0x81, area), 0, 0, false)
			continue
		}
		expectSize(t, p, 0x0506, 0x0304, true)
		expectSize(t, "\x88"+reply(0x85, sets)+reply(0xff, "")+reply(0x81, area[:n])+reply(0x81, "\x09\x09\x09\x09\x09\x09")+reply(0x81, ""), 0x0506, 0x0304, true)
		expectSize(t, p+"\x00", 0, 0, false)
		expectSize(t, p+whole(0x77, "\x80"), 0, 0, false)
		expectSize(t, "\x87"+p[1:], 0, 0, false)
		expectNumber(t, p, 0, false)
	}
	for n := range len(sets) + 1 {
		p := "\x88" + reply(0x85, sets[:n])
		if n < 14 {
			expectNumber(t, p, 0, false)
			expectNumber(t, p+reply(0x85, sets), 0, false)
			continue
		}
		expectNumber(t, p, 0x0d0e, true)
		expectNumber(t, "\x88"+reply(0x81, area)+reply(0xff, "")+reply(0x85, sets[:n])+reply(0x85, strings.Repeat("\x09", 14))+reply(0x85, ""), 0x0d0e, true)
		expectNumber(t, p+"\x00", 0, false)
		expectNumber(t, p+whole(0x81, ""), 0, false)
		expectNumber(t, "\x87"+p[1:], 0, false)
		expectSize(t, p, 0, 0, false)
	}
	expectSize(t, "\x88"+reply(0x81, "\x00\x00\xff\xfe\xfd\xfc"), 0xfdfc, 0xfffe, true)
	expectSize(t, "\x88"+reply(0x81, "\x01\x00\x00\x00\x00\x00"), 0, 0, true)
	expectNumber(t, "\x88"+reply(0x85, strings.Repeat("\xff", 14)), 0xffff, true)
	expectNumber(t, "\x88"+reply(0x85, strings.Repeat("\x00", 14)), 0, true)
	expectSize(t, "", 0, 0, false)
	expectSize(t, "\x88", 0, 0, false)
	expectNumber(t, "", 0, false)
	expectNumber(t, "\x88", 0, false)
	if _, _, ok := query.Size(nil); ok {
		t.Error("Size of nil")
	}
	if _, ok := query.Number(nil); ok {
		t.Error("Number of nil")
	}
}

// P22.2: answers that have been changed by chance, against a parser that goes by an index.
func TestParseByChance(t *testing.T) {
	r := rand.New(rand.NewPCG(22, 2))
	all := query.All(5, nil)
	for range 50000 {
		p := append([]byte{}, all[:r.IntN(len(all)+1)]...)
		for range r.IntN(3) {
			if len(p) > 0 {
				p[r.IntN(len(p))] = "\x00\x01\x04\x07\x0b\x17\x81\x88"[r.IntN(8)]
			}
		}
		want, e := wantParse(string(p))
		expectParse(t, string(p), want, e)
	}
}

func wantParse(p string) (string, api.Errno) {
	switch {
	case p == "":
		return "", api.ErrShort
	case p[0] != 0x88:
		return "", api.ErrForm
	}
	found := ""
	for n := 1; n < len(p); {
		if n+3 > len(p) {
			return "", api.ErrShort
		}
		end := n + int(p[n])*256 + int(p[n+1])
		if end == n {
			end = len(p)
		}
		switch {
		case end < n+3, end > len(p):
			return "", api.ErrShort
		case p[n+2] != 0x81, end == n+3:
			return "", api.ErrForm
		}
		found += p[n+3 : n+4]
		n = end
	}
	return found, api.OK
}

// The rule of memory: data stay as they are, and no two answers share memory.
func TestParseSharesNothing(t *testing.T) {
	data := string(query.All(3, nil))
	p := spare(data)
	first, _ := query.Parse(p)
	second, _ := query.Parse(p)
	query.Size(p)
	query.Number(p)
	if !untouched(p, data) {
		t.Errorf("the data are %x", p[:cap(p)])
	}
	overwrite(first)
	if again, _ := query.Parse(p); string(second) != codes || string(again) != codes || !untouched(p, data) {
		t.Errorf("%x, %x, %x after another answer is overwritten", second, again, p)
	}
	overwrite(p)
	if string(second) != codes {
		t.Errorf("%x after the data are overwritten", second)
	}
}
