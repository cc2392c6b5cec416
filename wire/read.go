package wire

import (
	"vista/api"
	"vista/mark"
)

// reader reads bytes, and keeps its place in them. Where it can't go on it stops at their end, and reads nothing but zeros from then on: so it is asked once, behind all that was read, whether that was there.
type reader struct {
	bytes []byte
	at    int
	stuck bool
}

// done tells whether all that was asked for was read, and nothing is left.
func (r *reader) done() bool {
	return !r.stuck && r.at == len(r.bytes)
}

// stop makes the reader go on no more.
func (r *reader) stop() {
	r.at, r.stuck = len(r.bytes), true
}

func (r *reader) message() api.Msg {
	m := api.Msg{Kind: r.octet(), Client: r.number(), Life: r.number(), Seq: r.number()}
	// Two numbers that were read are a mark.
	m.Mark, _ = mark.At(r.number(), r.number())
	m.Version = r.number()
	m.Err = api.Errno(r.number())
	switch m.Kind {
	case api.MsgAsk:
		m.Op = r.op()
	case api.MsgReply:
		m.Entries = readList(r, r.entry)
	case api.MsgBreak:
		m.Keys = readList(r, r.key)
	}
	return m
}

func (r *reader) note() api.Note {
	n := api.Note{Kind: r.octet()}
	switch n.Kind {
	case api.NoteBoot:
		n.Epoch = r.number()
	case api.NoteBase:
		n.Epoch, n.Version, n.Next = r.number(), r.number(), r.number()
	case api.NoteNode:
		n.Entry = r.entry()
	case api.NoteSeen:
		n.Client, n.Seen = r.number(), r.seen()
	case api.NoteDone:
		n.Client, n.Seen, n.Op = r.number(), r.seen(), r.op()
	}
	return n
}

func (r *reader) seen() api.Seen {
	return api.Seen{Life: r.number(), Seq: r.number(), Err: api.Errno(r.number())}
}

func (r *reader) op() api.Op {
	return api.Op{
		Kind: r.octet(), Dir: r.number(), Name: r.text(), To: r.number(), New: r.text(), Mode: r.number(), Target: r.text(),
	}
}

func (r *reader) entry() api.Entry {
	entry := api.Entry{Key: r.key()}
	switch r.octet() {
	case 0:
		entry.Node = r.node()
	case 1:
		entry.Neg = true
	default:
		goto end
	}
	return entry
end:
	r.stop()
	return api.Entry{}
}

func (r *reader) key() api.Key {
	return api.Key{Dir: r.number(), Name: r.text()}
}

func (r *reader) node() api.Node {
	return api.Node{ID: r.number(), Kind: r.octet(), Mode: r.number(), Target: r.text()}
}

// readList reads how many items there are, and these.
func readList[T any](r *reader, read func() T) []T {
	var items []T
	for range r.number() {
		// A number of items that is told is no reason to trust that they are there.
		if r.stuck || len(items) == api.MaxNodes {
			goto end
		}
		items = append(items, read())
	}
	return items
end:
	r.stop()
	return nil
}

func (r *reader) text() string {
	size := r.number()
	from := r.at
	if size > api.MaxPath || size > len(r.bytes)-from {
		goto end
	}
	r.at += size
	return string(r.bytes[from:r.at])
end:
	r.stop()
	return ""
}

func (r *reader) number() int {
	n := 0
	// A group of a unit above MaxMark is too much, or is 0 and not needed.
	for unit := 1; unit <= api.MaxMark; unit <<= 7 {
		octet := r.octet()
		n += (octet & 0x7f) * unit
		if octet >= 0x80 {
			continue
		}
		if n > api.MaxMark || octet == 0 && unit > 1 {
			goto end
		}
		return n
	}
end:
	r.stop()
	return 0
}

func (r *reader) octet() int {
	if r.at == len(r.bytes) {
		goto end
	}
	r.at++
	return int(r.bytes[r.at-1])
end:
	r.stop()
	return 0
}
