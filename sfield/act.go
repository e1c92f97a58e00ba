package sfield

import (
	"bytes"

	"vitrine/api"
	"vitrine/write"
)

// The kinds of acts.
const (
	Query = 1 + iota
	QueryList
	Read
	Erase
	Mode
	Create
	Destroy
	Activate
	Outbound
)

// names are those of the kinds, by their numbers.
var names = [...]string{
	Query: "Query", QueryList: "QueryList", Read: "Read", Erase: "Erase", Mode: "Mode",
	Create: "Create", Destroy: "Destroy", Activate: "Activate", Outbound: "Outbound",
}

// The identifiers of the fields that are supported.
const (
	readPartition     = 0x01
	eraseReset        = 0x03
	setReplyMode      = 0x09
	createPartition   = 0x0c
	destroyPartition  = 0x0d
	activatePartition = 0x0e
	outbound3270DS    = 0x40
)

// The types of a Read Partition that are no reads.
const (
	queryType = 0x02
	listType  = 0x03
)

// The sizes that an Erase/Reset asks for.
const (
	defaultSize   = 0x00
	alternateSize = 0x80
)

// The only partition that there is, and what stands for the whole terminal.
const (
	onlyPartition = 0x00
	anyPartition  = 0xff
)

// lastMode is the one that more bytes may follow.
const lastMode = 2

// Act is what a field asks for.
type Act struct {
	Kind    int
	Command int
	Mode    int
	Alt     bool
	Request byte
	Codes   []byte
	Record  []byte
}

func Name(kind int) string {
	if kind < 0 || kind >= len(names) {
		return ""
	}
	return names[kind]
}

func (f Field) Act() (Act, api.Errno) {
	switch f.ID {
	case readPartition:
		return f.inPartition(readAct)
	case eraseReset:
		return eraseAct(f.Data)
	case setReplyMode:
		return f.inPartition(modeAct)
	case createPartition:
		return f.inPartition(createAct)
	case destroyPartition:
		return f.inPartition(destroyAct)
	case activatePartition:
		return f.inPartition(activateAct)
	case outbound3270DS:
		return f.inPartition(outboundAct)
	}
	return Act{}, api.ErrOrder
}

// inPartition asks what the data behind the partition mean before it asks which partition it is, since ErrForm comes first, and the kind tells which it must be.
func (f Field) inPartition(meaning func(rest []byte) (Act, bool)) (Act, api.Errno) {
	if len(f.Data) == 0 {
		return Act{}, api.ErrForm
	}
	a, ok := meaning(f.Data[1:])
	if !ok {
		return Act{}, api.ErrForm
	}
	if f.Data[0] != a.partition() {
		return Act{}, api.ErrArg
	}
	return a, api.OK
}

// partition is the one that an act of this kind is for.
func (a Act) partition() byte {
	if a.Kind == Query || a.Kind == QueryList {
		return anyPartition
	}
	return onlyPartition
}

func eraseAct(data []byte) (Act, api.Errno) {
	if len(data) != 1 || data[0] != defaultSize && data[0] != alternateSize {
		return Act{}, api.ErrForm
	}
	return Act{Kind: Erase, Alt: data[0] == alternateSize}, api.OK
}

// readAct looks for queries first, since the byte of one is also that of a command.
func readAct(rest []byte) (Act, bool) {
	if len(rest) == 0 {
		return Act{}, false
	}
	switch rest[0] {
	case queryType:
		return Act{Kind: Query}, len(rest) == 1
	case listType:
		return listAct(rest[1:])
	}
	command, ok := write.Command(rest[0])
	return Act{Kind: Read, Command: command}, ok && write.Reads(command) && len(rest) == 1
}

func listAct(rest []byte) (Act, bool) {
	if len(rest) == 0 || !isRequest(rest[0]) {
		return Act{}, false
	}
	return Act{Kind: QueryList, Request: rest[0], Codes: bytes.Clone(rest[1:])}, true
}

// isRequest tells whether a byte is the request of a Query List.
func isRequest(b byte) bool {
	return b == 0x00 || b == 0x40 || b == 0x80
}

func modeAct(rest []byte) (Act, bool) {
	if len(rest) == 0 || rest[0] > lastMode || rest[0] < lastMode && len(rest) > 1 {
		return Act{}, false
	}
	return Act{Kind: Mode, Mode: int(rest[0])}, true
}

func createAct(rest []byte) (Act, bool) {
	return Act{Kind: Create}, true
}

func destroyAct(rest []byte) (Act, bool) {
	return Act{Kind: Destroy}, len(rest) == 0
}

func activateAct(rest []byte) (Act, bool) {
	return Act{Kind: Activate}, len(rest) == 0
}

func outboundAct(rest []byte) (Act, bool) {
	if len(rest) == 0 {
		return Act{}, false
	}
	command, ok := write.Command(rest[0])
	return Act{Kind: Outbound, Record: bytes.Clone(rest)}, ok && command <= write.EraseUnprotected
}

func (a Act) Field() (Field, api.Errno) {
	f, ok := a.plain()
	if !ok {
		return Field{}, api.ErrArg
	}
	again, e := f.Act()
	// A mode can be too great for its byte; other acts that no field stands for become fields that are not of the form.
	if e != api.OK || a.Kind == Mode && again.Mode != a.Mode {
		return Field{}, api.ErrForm
	}
	return f, api.OK
}

// plain writes the field of an act, and doesn't ask whether it has the form; it returns false if there is no such kind.
func (a Act) plain() (Field, bool) {
	data := []byte{a.partition()}
	switch a.Kind {
	case Query:
		return Field{ID: readPartition, Data: append(data, queryType)}, true
	case QueryList:
		return Field{ID: readPartition, Data: append(append(data, listType, a.Request), a.Codes...)}, true
	case Read:
		return Field{ID: readPartition, Data: append(data, write.Byte(a.Command))}, true
	case Erase:
		return Field{ID: eraseReset, Data: []byte{a.size()}}, true
	case Mode:
		return Field{ID: setReplyMode, Data: append(data, byte(a.Mode))}, true
	case Create:
		return Field{ID: createPartition, Data: data}, true
	case Destroy:
		return Field{ID: destroyPartition, Data: data}, true
	case Activate:
		return Field{ID: activatePartition, Data: data}, true
	case Outbound:
		return Field{ID: outbound3270DS, Data: append(data, a.Record...)}, true
	}
	return Field{}, false
}

func (a Act) size() byte {
	if a.Alt {
		return alternateSize
	}
	return defaultSize
}

func Acts(p []byte) ([]Act, api.Errno) {
	var l []Act
	for f, e := range Fields(p) {
		if e != api.OK {
			return l, e
		}
		a, e := f.Act()
		if e != api.OK {
			return l, e
		}
		l = append(l, a)
	}
	return l, api.OK
}

// Record asks for all fields before it measures any, since their errors come before ErrLong.
func Record(l ...Act) ([]byte, api.Errno) {
	var fields []Field
	for _, a := range l {
		f, e := a.Field()
		if e != api.OK {
			return nil, e
		}
		fields = append(fields, f)
	}
	record := []byte{write.Byte(write.Structured)}
	for _, f := range fields {
		p, e := f.Bytes()
		if e != api.OK || len(record)+len(p) > api.MaxRecord {
			return nil, api.ErrLong
		}
		record = append(record, p...)
	}
	return record, api.OK
}
