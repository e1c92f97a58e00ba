package nego_test

import (
	"strings"
	"testing"

	"vitrine/api"
	"vitrine/nego"
)

// orders returns all lists of some of the functions, each in every order.
func orders(from string) []string {
	l := []string{""}
	for i := range len(from) {
		rest := from[:i] + from[i+1:]
		for _, tail := range orders(rest) {
			l = append(l, from[i:i+1]+tail)
		}
	}
	return l
}

// subset returns the functions whose bits are set, in increasing order.
func subset(bits int) string {
	var l []byte
	for b := range 5 {
		if bits>>b&1 == 1 {
			l = append(l, byte(b))
		}
	}
	return string(l)
}

// known returns those of a list that are supported, in the list's order.
func known(l, supports string) string {
	return strings.Map(func(r rune) rune {
		if strings.ContainsRune(supports, r) {
			return r
		}
		return -1
	}, l)
}

// atFunctions returns an end that was asked for functions and, if it is to be ready, agreed on all of its own.
func atFunctions(t *testing.T, supports string, isReady bool) *nego.End {
	t.Helper()
	e := newEnd(t, "", supports)
	hear(t, e, nego.TN3270E, sendDevice, "\x02\x07"+typeName, api.OK)
	hear(t, e, nego.TN3270E, deviceIs, "\x03\x07"+supports, api.OK)
	check(t, e, view{askedFunctions, "LU9", ""})
	if isReady {
		hear(t, e, nego.TN3270E, "\x03\x04"+supports, "", api.OK)
		check(t, e, view{ready, "LU9", supports})
	}
	return e
}

// P10.1, P10.2: every list of functions in every order, said to ends of every support.
func TestEveryList(t *testing.T) {
	lists := orders("\x00\x01\x02\x03\x04")
	if len(lists) != 326 {
		t.Fatal(len(lists))
	}
	for bits := range 32 {
		supports := subset(bits)
		for _, l := range lists {
			checkIs(t, supports, l)
			checkRequest(t, supports, l, false)
			checkRequest(t, supports, l, true)
		}
	}
}

func checkIs(t *testing.T, supports, l string) {
	t.Helper()
	e := atFunctions(t, supports, false)
	hear(t, e, nego.TN3270E, "\x03\x04"+l, "", api.OK)
	if known(l, supports) == l {
		check(t, e, view{ready, "LU9", sorted(l)})
		return
	}
	check(t, e, view{refused, "LU9", ""})
}

func checkRequest(t *testing.T, supports, l string, isReady bool) {
	t.Helper()
	e := atFunctions(t, supports, isReady)
	if k := known(l, supports); k != l {
		hear(t, e, nego.TN3270E, "\x03\x07"+l, "\x03\x07"+k, api.OK)
		check(t, e, view{askedFunctions, "LU9", ""})
		return
	}
	hear(t, e, nego.TN3270E, "\x03\x07"+l, "\x03\x04"+l, api.OK)
	check(t, e, view{ready, "LU9", sorted(l)})
}

// P10.1: a byte above 4 is a function that is not supported, wherever it is in the list; twice, there is no list.
func TestFunctionsAboveFour(t *testing.T) {
	const supports = "\x00\x01\x02\x03\x04"
	for b := 5; b < 256; b++ {
		s := string([]byte{byte(b)})
		for _, l := range []string{s, s + "\x02\x01", "\x02" + s + "\x01", "\x04\x00" + s} {
			e := atFunctions(t, supports, false)
			hear(t, e, nego.TN3270E, "\x03\x04"+l, "", api.OK)
			check(t, e, view{refused, "LU9", ""})
			for _, isReady := range []bool{false, true} {
				e := atFunctions(t, supports, isReady)
				hear(t, e, nego.TN3270E, "\x03\x07"+l, "\x03\x07"+strings.ReplaceAll(l, s, ""), api.OK)
				check(t, e, view{askedFunctions, "LU9", ""})
			}
			for _, word := range []string{"\x03\x04", "\x03\x07"} {
				e := atFunctions(t, supports, true)
				hear(t, e, nego.TN3270E, word+l+s, "", api.ErrForm)
				hear(t, e, nego.TN3270E, word+s+l, "", api.ErrForm)
				check(t, e, view{ready, "LU9", supports})
			}
		}
	}
}

// P10.1: the longest list has every byte once.
func TestLongestList(t *testing.T) {
	var l []byte
	for b := 255; b >= 0; b-- {
		l = append(l, byte(b))
	}
	e := atFunctions(t, "\x00\x02", false)
	hear(t, e, nego.TN3270E, "\x03\x07"+string(l)+"\x00", "", api.ErrForm)
	hear(t, e, nego.TN3270E, "\x03\x07"+string(l), "\x03\x07\x02\x00", api.OK)
	hear(t, e, nego.TN3270E, "\x03\x04"+string(l), "", api.OK)
	check(t, e, view{refused, "LU9", ""})
}

// P10.1: what counts is what the end supports, not what it asked for last.
func TestMoreThanWasAskedFor(t *testing.T) {
	e := atFunctions(t, "\x00\x02\x04", false)
	hear(t, e, nego.TN3270E, "\x03\x07\x03\x02", "\x03\x07\x02", api.OK)
	hear(t, e, nego.TN3270E, "\x03\x04\x04\x02\x00", "", api.OK)
	check(t, e, view{ready, "LU9", "\x00\x02\x04"})
	hear(t, e, nego.TN3270E, "\x03\x07\x04", "\x03\x04\x04", api.OK)
	check(t, e, view{ready, "LU9", "\x04"})
	hear(t, e, nego.TN3270E, "\x03\x07\x04\x01", "\x03\x07\x04", api.OK)
	check(t, e, view{askedFunctions, "LU9", ""})
	hear(t, e, nego.TN3270E, "\x03\x07", "\x03\x04", api.OK)
	check(t, e, view{ready, "LU9", ""})
	hear(t, e, nego.TN3270E, "\x03\x04", "", api.ErrState)
}
