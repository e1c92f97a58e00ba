package keys

import (
	"strconv"
	"strings"

	"vitrine/api"
)

// The AIDs that have no number.
const (
	enterAID  = 0x7d
	clearAID  = 0x6d
	selectAID = 0x7e
	noAID     = 0x60
)

// The AIDs of the PF and the PA keys, from number 1 on.
const (
	pfAIDs = "" +
		"\xf1\xf2\xf3\xf4\xf5\xf6\xf7\xf8\xf9\x7a\x7b\x7c" +
		"\xc1\xc2\xc3\xc4\xc5\xc6\xc7\xc8\xc9\x4a\x4b\x4c"
	paAIDs = "\x6c\x6e\x6b"
)

func AID(k Key) (byte, bool) {
	switch k.Kind {
	case Enter:
		return enterAID, true
	case PF:
		return numbered(pfAIDs, k.N)
	case PA:
		return numbered(paAIDs, k.N)
	case Clear:
		return clearAID, true
	}
	return 0, false
}

// numbered returns the AID of a number, or false if there is no such key.
func numbered(aids string, n int) (byte, bool) {
	if n < 1 || n > len(aids) {
		return 0, false
	}
	return aids[n-1], true
}

func Short(aid byte) bool {
	return aid == clearAID || strings.IndexByte(paAIDs, aid) >= 0
}

func Name(aid byte) string {
	switch aid {
	case enterAID:
		return "Enter"
	case clearAID:
		return "Clear"
	case selectAID:
		return "Select"
	case noAID:
		return "None"
	}
	if i := strings.IndexByte(pfAIDs, aid); i >= 0 {
		return "PF" + strconv.Itoa(i+1)
	}
	if i := strings.IndexByte(paAIDs, aid); i >= 0 {
		return "PA" + strconv.Itoa(i+1)
	}
	return ""
}

// attention is for the keys that do nothing but send their AID; Clear clears the screen, too.
func (b *Board) attention(k Key) (bool, api.Errno) {
	aid, ok := AID(k)
	if !ok {
		return false, api.ErrArg
	}
	if k.Kind == Clear {
		b.screen.Clear(false)
	}
	b.send(aid)
	return true, api.OK
}

func (b *Board) send(aid byte) {
	b.aid, b.lock, b.inserts = aid, waiting, false
}
