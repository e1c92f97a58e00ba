package link

import (
	"bytes"
	"iter"

	"vitrine/api"
	"vitrine/header"
	"vitrine/nego"
	"vitrine/option"
	"vitrine/record"
	"vitrine/telnet"
)

const (
	eor = 0xef
	iac = 0xff
)

// The types of headers that have a kind of event of their own.
const (
	screenData = 0
	response   = 2
	textData   = 5
)

// refused is the state of an end that has obtained no device or no functions.
const refused = 4

// Take copies p, since the caller may overwrite it before the events are asked for.
func (l *Link) Take(p []byte) iter.Seq[Event] {
	whole := bytes.Clone(p)
	return func(yield func(Event) bool) {
		if l == nil {
			return
		}
		for rest := whole; len(rest) > 0; {
			var elements []telnet.Event
			elements, rest = l.read(rest)
			for _, element := range elements {
				if e, ok := l.process(element); ok && !yield(e) {
					return
				}
			}
		}
	}
}

// read feeds the reader no more of p than one event can be made of, since the bytes after an event must not be read when it is yielded. It returns what is complete then, and the rest of p.
func (l *Link) read(p []byte) ([]telnet.Event, []byte) {
	elements, rest := l.reader.Feed(p[:1]), p[1:]
	last := len(elements) - 1
	if last < 0 || elements[last].Kind != telnet.Data {
		return elements, rest
	}
	more := dataLength(rest)
	elements = append(elements, l.reader.Feed(rest[:more])...)
	return telnet.Merge(elements), rest[more:]
}

// dataLength returns how many bytes at the beginning of p are data, if p begins between two elements.
func dataLength(p []byte) int {
	n := 0
	for n < len(p) {
		if p[n] != iac {
			n++
			continue
		}
		if n+1 == len(p) || p[n+1] != iac {
			return n
		}
		n += 2
	}
	return n
}

// process returns the event that an element results in, or false if there is none.
func (l *Link) process(element telnet.Event) (Event, bool) {
	switch element.Kind {
	case telnet.Data:
		return l.takeData(element.Data)
	case telnet.Command:
		return l.takeCommand(element.Verb)
	}
	before := l.Mode()
	if element.Kind == telnet.Option {
		l.takeOption(element.Verb, element.Option)
	} else {
		l.takeSub(element)
	}
	if l.Mode() != before {
		l.maker.Drop()
	}
	return Event{}, false
}

func (l *Link) takeData(p []byte) (Event, bool) {
	if l.Mode() == plain {
		return Event{Kind: Text, Data: p}, true
	}
	l.maker.Add(p)
	return Event{}, false
}

func (l *Link) takeCommand(verb byte) (Event, bool) {
	if verb != eor {
		return Event{}, false
	}
	switch l.Mode() {
	case basic:
		return basicEvent(l.maker.End()), true
	case extended:
		return extendedEvent(l.maker.End()), true
	}
	return Event{}, false
}

func (l *Link) takeOption(verb, code byte) {
	// The reader tells options by their verbs, so that there is no error.
	messages, _ := l.options.Hear(verb, code)
	l.sendMessages(messages)
	if !l.options.On(option.Us, nego.TN3270E) {
		l.end.Reset()
	}
}

func (l *Link) takeSub(element telnet.Event) {
	if element.Long || element.Broken || !l.options.On(option.Us, element.Option) {
		return
	}
	// What the end does not understand has no answer, and no other effect.
	answer, _ := l.end.Hear(element.Option, element.Data)
	if len(answer) > 0 {
		l.send(telnet.SubBytes(element.Option, answer))
	}
	if l.end.State() != refused {
		return
	}
	// An error means that it was asked for already: the end stays refused until the next option is heard.
	messages, _ := l.options.Ask(option.Us, nego.TN3270E, false)
	l.sendMessages(messages)
}

func basicEvent(r record.Record) Event {
	if r.Long {
		return Event{Kind: Long}
	}
	return Event{Kind: Screen, Data: r.Data}
}

func extendedEvent(r record.Record) Event {
	h, data, errno := header.Parse(r.Data)
	if r.Long {
		// The bytes that are kept of a long record are those of its header.
		return Event{Kind: Long, Header: h, Headed: errno == api.OK}
	}
	if errno != api.OK {
		return Event{Kind: Bad, Data: r.Data}
	}
	return Event{Kind: kindOf(h), Data: data, Header: h, Headed: true}
}

func kindOf(h header.Header) int {
	switch h.Type {
	case screenData:
		return Screen
	case textData:
		return Text
	case response:
		return Answer
	}
	return Other
}
