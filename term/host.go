package term

import (
	"vitrine/api"
	"vitrine/query"
	"vitrine/read"
	"vitrine/sfield"
	"vitrine/write"
)

// usualMode is the reply mode until the host sets another one.
const usualMode = 0

func (t *Term) Host(record []byte) ([][]byte, api.Errno) {
	if t == nil {
		return nil, api.ErrNone
	}
	sent, e := t.execute(record)
	t.counts.Add(recordsTaken, 1)
	t.counts.Add(dataSent, uint64(len(sent)))
	if e != api.OK {
		t.counts.Add(recordsRejected, 1)
	}
	return sent, e
}

// execute goes through a record, be it one of the host or that of an Outbound, and returns what is to be sent.
func (t *Term) execute(record []byte) ([][]byte, api.Errno) {
	r, e := write.Run(t.screen, record)
	if e != api.OK {
		return nil, e
	}
	t.control(r)
	if write.Reads(r.Command) {
		return [][]byte{t.read(r.Command)}, api.OK
	}
	return t.fields(r.Fields)
}

// control does what the write control character asks for beside the screen.
func (t *Term) control(r write.Result) {
	if r.Reset {
		t.mode = usualMode
	}
	if r.Restore {
		t.board.Restore()
	}
	if r.Alarm {
		t.counts.Add(alarmsSounded, 1)
	}
}

// read is for the commands that ask for it; the screen is there, and the reply mode is one, so that there is no error.
func (t *Term) read(command int) []byte {
	p, _ := read.For(t.screen, command, t.board.AID(), t.mode)
	return p
}

// fields goes through structured fields, which only a Write Structured Field has. What they mean does not hang on the terminal, so that all are parsed first; the parser's error comes behind those of the fields ahead of it.
func (t *Term) fields(p []byte) ([][]byte, api.Errno) {
	acts, last := sfield.Acts(p)
	var sent [][]byte
	for _, a := range acts {
		more, e := t.act(a)
		if e != api.OK {
			return sent, e
		}
		sent = append(sent, more...)
	}
	return sent, last
}

func (t *Term) act(a sfield.Act) ([][]byte, api.Errno) {
	switch a.Kind {
	case sfield.Query:
		return [][]byte{query.All(t.screen.Model(), t.page)}, api.OK
	case sfield.QueryList:
		return [][]byte{query.List(a.Request, a.Codes, t.screen.Model(), t.page)}, api.OK
	case sfield.Read:
		return [][]byte{t.read(a.Command)}, api.OK
	case sfield.Outbound:
		return t.execute(a.Record)
	case sfield.Erase:
		t.screen.Clear(a.Alt)
	case sfield.Create, sfield.Destroy:
		t.screen.Clear(false)
		t.mode = usualMode
	case sfield.Mode:
		t.mode = a.Mode
	}
	return nil, api.OK
}
