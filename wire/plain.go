package wire

import (
	"vista/api"
	"vista/mark"
)

// plainMessage tells whether a message has bytes.
func plainMessage(m api.Msg) bool {
	if !within(m.Client, m.Life, m.Seq, m.Version, int(m.Err)) || !mark.Good(m.Mark) {
		return false
	}
	// What a kind does not carry must not be there.
	op, entries, keys := m.Op == api.Op{}, len(m.Entries) == 0, len(m.Keys) == 0
	switch m.Kind {
	case api.MsgAsk:
		op = plainOp(m.Op)
	case api.MsgReply:
		entries = plainList(m.Entries, plainEntry)
	case api.MsgBreak:
		keys = len(m.Keys) > 0 && plainList(m.Keys, plainKey)
	case api.MsgFlush:
	default:
		return false
	}
	return op && entries && keys
}

// plainNote tells whether a note has bytes. A field that its row does not name is zero, and so within the limits.
func plainNote(n api.Note) bool {
	if n != named(n) || !within(n.Epoch, n.Version, n.Next, n.Client, n.Seen.Life, n.Seen.Seq, int(n.Seen.Err)) {
		return false
	}
	switch n.Kind {
	case api.NoteBoot, api.NoteBase, api.NoteSeen:
		return true
	case api.NoteNode:
		return !n.Entry.Neg && plainEntry(n.Entry)
	case api.NoteDone:
		return plainOp(n.Op)
	}
	return false
}

// named is a note with nothing but the fields that its kind's row names.
func named(n api.Note) api.Note {
	only := api.Note{Kind: n.Kind}
	switch n.Kind {
	case api.NoteBoot:
		only.Epoch = n.Epoch
	case api.NoteBase:
		only.Epoch, only.Version, only.Next = n.Epoch, n.Version, n.Next
	case api.NoteNode:
		only.Entry = n.Entry
	case api.NoteSeen:
		only.Client, only.Seen = n.Client, n.Seen
	case api.NoteDone:
		only.Client, only.Seen, only.Op = n.Client, n.Seen, n.Op
	}
	return only
}

func plainOp(op api.Op) bool {
	return op.Kind >= api.OpLook && op.Kind <= api.OpSetattr && within(op.Dir, op.To, op.Mode) && short(op.Name, op.New, op.Target)
}

func plainEntry(entry api.Entry) bool {
	if !plainKey(entry.Key) {
		return false
	}
	if entry.Neg {
		return entry.Node == api.Node{}
	}
	return plainNode(entry.Node)
}

func plainKey(key api.Key) bool {
	return within(key.Dir) && short(key.Name)
}

func plainNode(node api.Node) bool {
	return node.Kind >= api.KindDir && node.Kind <= api.KindLink && within(node.ID, node.Mode) && short(node.Target)
}

// plainList tells whether a list may be carried, all its items being plain.
func plainList[T any](items []T, plain func(T) bool) bool {
	if len(items) > api.MaxNodes {
		return false
	}
	for _, item := range items {
		if !plain(item) {
			return false
		}
	}
	return true
}

// within tells whether all of these can be written as numbers.
func within(numbers ...int) bool {
	for _, n := range numbers {
		if n < 0 || n > api.MaxMark {
			return false
		}
	}
	return true
}

// short tells whether all of these can be written as texts.
func short(texts ...string) bool {
	for _, text := range texts {
		if len(text) > api.MaxPath {
			return false
		}
	}
	return true
}
