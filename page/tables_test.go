package page_test

import (
	"strconv"
	"strings"
	"testing"
)

// The tables are written as in the document, so that they can be held against it line by line.

const table37 = `
0000 0001 0002 0003 009c 0009 0086 007f 0097 008d 008e 000b 000c 000d 000e 000f
0010 0011 0012 0013 009d 0085 0008 0087 0018 0019 0092 008f 001c 001d 001e 001f
0080 0081 0082 0083 0084 000a 0017 001b 0088 0089 008a 008b 008c 0005 0006 0007
0090 0091 0016 0093 0094 0095 0096 0004 0098 0099 009a 009b 0014 0015 009e 001a
0020 00a0 00e2 00e4 00e0 00e1 00e3 00e5 00e7 00f1 00a2 002e 003c 0028 002b 007c
0026 00e9 00ea 00eb 00e8 00ed 00ee 00ef 00ec 00df 0021 0024 002a 0029 003b 00ac
002d 002f 00c2 00c4 00c0 00c1 00c3 00c5 00c7 00d1 00a6 002c 0025 005f 003e 003f
00f8 00c9 00ca 00cb 00c8 00cd 00ce 00cf 00cc 0060 003a 0023 0040 0027 003d 0022
00d8 0061 0062 0063 0064 0065 0066 0067 0068 0069 00ab 00bb 00f0 00fd 00fe 00b1
00b0 006a 006b 006c 006d 006e 006f 0070 0071 0072 00aa 00ba 00e6 00b8 00c6 00a4
00b5 007e 0073 0074 0075 0076 0077 0078 0079 007a 00a1 00bf 00d0 00dd 00de 00ae
005e 00a3 00a5 00b7 00a9 00a7 00b6 00bc 00bd 00be 005b 005d 00af 00a8 00b4 00d7
007b 0041 0042 0043 0044 0045 0046 0047 0048 0049 00ad 00f4 00f6 00f2 00f3 00f5
007d 004a 004b 004c 004d 004e 004f 0050 0051 0052 00b9 00fb 00fc 00f9 00fa 00ff
005c 00f7 0053 0054 0055 0056 0057 0058 0059 005a 00b2 00d4 00d6 00d2 00d3 00d5
0030 0031 0032 0033 0034 0035 0036 0037 0038 0039 00b3 00db 00dc 00d9 00da 009f
`

const tableEscapes = "70 2227, 85 2502, 8a 2191, 8b 2193, 8c 2264, 8f 2192, 9f 2190, a2 2500, ae 2265, be 2260, c4 2514, c5 250c, c6 251c, c7 2534, d3 253c, d4 2518, d5 2510, d6 2524, d7 252c"

func tableChanges() map[int]string {
	return map[int]string{
		37:   "",
		500:  "4a 005b, 4f 0021, 5a 005d, 5f 005e, b0 00a2, ba 00ac, bb 007c",
		1047: "5f 005e, ad 005b, b0 00ac, ba 00dd, bb 00a8, bd 005d",
		273:  "43 007b, 4a 00c4, 4f 0021, 59 007e, 5a 00dc, 5f 005e, 63 005b, 6a 00f6, 7c 00a7, a1 00df, b0 00a2, b5 0040, ba 00ac, bb 007c, c0 00e4, cc 00a6, d0 00fc, dc 007d, e0 00d6, ec 005c, fc 005d",
		297:  "44 0040, 48 005c, 4a 00b0, 4f 0021, 51 007b, 54 007d, 5a 00a7, 5f 005e, 6a 00f9, 79 00b5, 7b 00a3, 7c 00e0, 90 005b, a0 0060, a1 00a8, b0 00a2, b1 0023, b5 005d, ba 00ac, bb 007c, bd 007e, c0 00e9, d0 00e8, dd 00a6, e0 00e7",
		1140: "9f 20ac",
	}
}

func hex(t *testing.T, word string) rune {
	t.Helper()
	n, err := strconv.ParseUint(word, 16, 31)
	if err != nil {
		t.Fatal(err)
	}
	return rune(n)
}

// pairs reads a list such as "4a 005b, 4f 0021".
func pairs(t *testing.T, list string) map[byte]rune {
	t.Helper()
	signs := map[byte]rune{}
	for _, item := range strings.Split(list, ", ") {
		if words := strings.Fields(item); len(words) == 2 {
			signs[byte(hex(t, words[0]))] = hex(t, words[1])
		}
	}
	return signs
}

// tables returns the characters of all pages by code.
func tables(t *testing.T) map[int][256]rune {
	t.Helper()
	var usual [256]rune
	words := strings.Fields(table37)
	if len(words) != len(usual) {
		t.Fatal(len(words))
	}
	for code, word := range words {
		usual[code] = hex(t, word)
	}
	all := map[int][256]rune{}
	for number, list := range tableChanges() {
		signs := usual
		for code, sign := range pairs(t, list) {
			signs[code] = sign
		}
		all[number] = signs
	}
	return all
}
