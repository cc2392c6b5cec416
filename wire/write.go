package wire

import (
	"vista/api"
	"vista/mark"
)

// writer writes what is known to be plain.
type writer struct {
	bytes []byte
}

func (w *writer) message(m api.Msg) {
	w.octet(m.Kind)
	w.numbers(m.Client, m.Life, m.Seq, mark.Epoch(m.Mark), mark.Number(m.Mark), m.Version, int(m.Err))
	switch m.Kind {
	case api.MsgAsk:
		w.op(m.Op)
	case api.MsgReply:
		writeList(w, m.Entries, w.entry)
	case api.MsgBreak:
		writeList(w, m.Keys, w.key)
	}
}

func (w *writer) note(n api.Note) {
	w.octet(n.Kind)
	switch n.Kind {
	case api.NoteBoot:
		w.numbers(n.Epoch)
	case api.NoteBase:
		w.numbers(n.Epoch, n.Version, n.Next)
	case api.NoteNode:
		w.entry(n.Entry)
	case api.NoteSeen:
		w.seen(n)
	case api.NoteDone:
		w.seen(n)
		w.op(n.Op)
	}
}

// seen writes whose mutation was answered, and how.
func (w *writer) seen(n api.Note) {
	w.numbers(n.Client, n.Seen.Life, n.Seen.Seq, int(n.Seen.Err))
}

func (w *writer) op(op api.Op) {
	w.octet(op.Kind)
	w.numbers(op.Dir)
	w.text(op.Name)
	w.numbers(op.To)
	w.text(op.New)
	w.numbers(op.Mode)
	w.text(op.Target)
}

func (w *writer) entry(entry api.Entry) {
	w.key(entry.Key)
	if entry.Neg {
		w.octet(1)
		return
	}
	w.octet(0)
	w.node(entry.Node)
}

func (w *writer) key(key api.Key) {
	w.numbers(key.Dir)
	w.text(key.Name)
}

func (w *writer) node(node api.Node) {
	w.numbers(node.ID)
	w.octet(node.Kind)
	w.numbers(node.Mode)
	w.text(node.Target)
}

// writeList writes how many items there are, and these.
func writeList[T any](w *writer, items []T, write func(T)) {
	w.numbers(len(items))
	for _, item := range items {
		write(item)
	}
}

func (w *writer) text(text string) {
	w.numbers(len(text))
	w.bytes = append(w.bytes, text...)
}

// numbers writes each number in groups of seven bits, the lowest first.
func (w *writer) numbers(numbers ...int) {
	for _, n := range numbers {
		for ; n >= 0x80; n >>= 7 {
			w.octet(n&0x7f | 0x80)
		}
		w.octet(n)
	}
}

func (w *writer) octet(octet int) {
	w.bytes = append(w.bytes, byte(octet))
}
