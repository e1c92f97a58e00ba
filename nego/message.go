package nego

import "bytes"

// The words of TN3270E. ASSOCIATE, which is 0, is in no message that an end takes or sends.
const (
	wordConnect    = 1
	wordDeviceType = 2
	wordFunctions  = 3
	wordIs         = 4
	wordReason     = 5
	wordReject     = 6
	wordRequest    = 7
	wordSend       = 8
)

// kind tells the messages of TN3270E apart that an end takes.
type kind int

const (
	noMessage kind = iota
	sendDevice
	deviceIs
	deviceReject
	functionsIs
	functionsRequest
)

// message is what a host says by TN3270E. Its functions are a part of the bytes that were parsed.
type message struct {
	kind      kind
	device    string
	functions []byte
}

func parse(p []byte) message {
	if len(p) < 2 {
		return message{}
	}
	rest := p[2:]
	switch p[0] {
	case wordSend:
		return parseSend(p[1], rest)
	case wordDeviceType:
		return parseDevice(p[1], rest)
	case wordFunctions:
		return parseFunctions(p[1], rest)
	}
	return message{}
}

func parseSend(word byte, rest []byte) message {
	if word != wordDeviceType || len(rest) != 0 {
		return message{}
	}
	return message{kind: sendDevice}
}

func parseDevice(word byte, rest []byte) message {
	switch word {
	case wordIs:
		return parseNames(rest)
	case wordReject:
		if len(rest) == 2 && rest[0] == wordReason {
			return message{kind: deviceReject}
		}
	}
	return message{}
}

// parseNames may look for the first CONNECT, since its byte is in no name.
func parseNames(p []byte) message {
	typeName, device, found := bytes.Cut(p, []byte{wordConnect})
	if !found || !Name(string(typeName)) || !Name(string(device)) {
		return message{}
	}
	return message{kind: deviceIs, device: string(device)}
}

func parseFunctions(word byte, l []byte) message {
	if !eachOnce(l) {
		return message{}
	}
	switch word {
	case wordIs:
		return message{kind: functionsIs, functions: l}
	case wordRequest:
		return message{kind: functionsRequest, functions: l}
	}
	return message{}
}

// eachOnce counts bytes above 4, too: they are functions that no end supports.
func eachOnce(l []byte) bool {
	var seen [256]bool
	for _, function := range l {
		if seen[function] {
			return false
		}
		seen[function] = true
	}
	return true
}
