package wire_test

import (
	"math"
	"slices"
	"strconv"
	"strings"

	"vista/api"
)

// ask is an ordinary ask.
func ask() api.Msg {
	return api.Msg{Kind: api.MsgAsk, Client: 1, Life: 2, Seq: 300, Mark: 4 + 5i, Version: 6, Err: 7,
		Op: api.Op{Kind: api.OpRename, Dir: 8, Name: "ab", To: 9, New: "c", Mode: 511, Target: "../d"}}
}

// reply is an ordinary reply, with a node of each kind and a name that is not there.
func reply() api.Msg {
	return api.Msg{Kind: api.MsgReply, Client: 2, Life: 1, Seq: 3, Mark: 1 + 200i, Version: 128, Err: api.ErrNotFound, Entries: []api.Entry{
		{Key: api.Key{Dir: 1, Name: "a"}, Node: api.Node{ID: 2, Kind: api.KindDir, Mode: 7}},
		{Key: api.Key{Dir: 1, Name: "b"}, Neg: true},
		{Key: api.Key{Dir: 2, Name: "c"}, Node: api.Node{ID: 3, Kind: api.KindFile, Mode: 511}},
		{Key: api.Key{Dir: 300, Name: ""}, Node: api.Node{ID: 400, Kind: api.KindLink, Target: "/x"}},
	}}
}

// breaks is an ordinary break.
func breaks() api.Msg {
	return api.Msg{Kind: api.MsgBreak, Client: 3, Life: 4, Mark: 1 + 2i, Version: 9,
		Keys: []api.Key{{Dir: 1, Name: "a"}, {Dir: 2}, {Dir: 300, Name: "bcd"}}}
}

// flush is an ordinary flush.
func flush() api.Msg {
	return api.Msg{Kind: api.MsgFlush, Client: 1, Life: 2, Mark: 3 + 4i, Version: 5}
}

// long is a text of the most bytes.
func long() string { return strings.Repeat("x", api.MaxPath) }

// fullOp has the greatest numbers and the longest texts.
func fullOp() api.Op {
	return api.Op{Kind: api.OpSetattr, Dir: api.MaxMark, Name: long(), To: api.MaxMark, New: long(), Mode: api.MaxMark, Target: long()}
}

// fullEntry has the greatest numbers and the longest texts.
func fullEntry() api.Entry {
	return api.Entry{Key: api.Key{Dir: api.MaxMark, Name: long()}, Node: api.Node{ID: api.MaxMark, Kind: api.KindLink, Mode: api.MaxMark, Target: long()}}
}

// full is the longest message of a kind.
func full(kind int) api.Msg {
	m := api.Msg{Kind: kind, Client: api.MaxMark, Life: api.MaxMark, Seq: api.MaxMark, Mark: complex(api.MaxMark, api.MaxMark), Version: api.MaxMark, Err: api.MaxMark}
	switch kind {
	case api.MsgAsk:
		m.Op = fullOp()
	case api.MsgReply:
		m.Entries = slices.Repeat([]api.Entry{fullEntry()}, api.MaxNodes)
	case api.MsgBreak:
		m.Keys = slices.Repeat([]api.Key{fullEntry().Key}, api.MaxNodes)
	}
	return m
}

// messages are plain messages of all kinds.
func messages() []api.Msg {
	all := []api.Msg{ask(), reply(), breaks(), flush(), {Kind: api.MsgFlush}, {Kind: api.MsgReply}, full(api.MsgAsk), full(api.MsgFlush)}
	for kind := api.OpLook; kind <= api.OpSetattr; kind++ {
		all = append(all, api.Msg{Kind: api.MsgAsk, Op: api.Op{Kind: kind}})
	}
	return append(all,
		api.Msg{Kind: api.MsgBreak, Keys: []api.Key{{}}},
		api.Msg{Kind: api.MsgReply, Entries: []api.Entry{{Neg: true}}},
		api.Msg{Kind: api.MsgReply, Entries: []api.Entry{{Node: api.Node{Kind: api.KindFile}}}},
	)
}

// boot and base are ordinary notes of a start and of a snapshot.
func boot() api.Note { return api.Note{Kind: api.NoteBoot, Epoch: 7} }
func base() api.Note { return api.Note{Kind: api.NoteBase, Epoch: 1, Version: 200, Next: 3} }

// node is an ordinary note of an entry.
func node() api.Note {
	return api.Note{Kind: api.NoteNode, Entry: api.Entry{Key: api.Key{Dir: 1, Name: "ab"}, Node: api.Node{ID: 200, Kind: api.KindLink, Mode: 5, Target: "../x"}}}
}

// seen is an ordinary note of a mutation that was answered.
func seen() api.Note {
	return api.Note{Kind: api.NoteSeen, Client: 2, Seen: api.Seen{Life: 3, Seq: 400, Err: api.ErrExist}}
}

// done is an ordinary note of a mutation.
func done() api.Note {
	return api.Note{Kind: api.NoteDone, Client: 2, Seen: api.Seen{Life: 3, Seq: 400, Err: api.ErrExist}, Op: ask().Op}
}

// fullNote is the longest note of a kind.
func fullNote(kind int) api.Note {
	most := api.Seen{Life: api.MaxMark, Seq: api.MaxMark, Err: api.MaxMark}
	switch kind {
	case api.NoteBoot:
		return api.Note{Kind: kind, Epoch: api.MaxMark}
	case api.NoteBase:
		return api.Note{Kind: kind, Epoch: api.MaxMark, Version: api.MaxMark, Next: api.MaxMark}
	case api.NoteNode:
		return api.Note{Kind: kind, Entry: fullEntry()}
	case api.NoteSeen:
		return api.Note{Kind: kind, Client: api.MaxMark, Seen: most}
	}
	return api.Note{Kind: kind, Client: api.MaxMark, Seen: most, Op: fullOp()}
}

// notes are plain notes of all kinds.
func notes() []api.Note {
	all := []api.Note{boot(), base(), node(), seen(), done(),
		{Kind: api.NoteBoot}, {Kind: api.NoteBase}, {Kind: api.NoteSeen}, {Kind: api.NoteNode, Entry: api.Entry{Node: api.Node{Kind: api.KindDir}}}}
	for kind := api.OpLook; kind <= api.OpSetattr; kind++ {
		all = append(all, api.Note{Kind: api.NoteDone, Op: api.Op{Kind: kind}})
	}
	for kind := api.NoteBoot; kind <= api.NoteDone; kind++ {
		all = append(all, fullNote(kind))
	}
	return all
}

// field is a field of a message or a note, T, that holds a V; of tells which ordinary one has it.
type field[T, V any] struct {
	name string
	of   func() T
	set  func(*T, V)
}

// numbersOf are all fields that hold a number, of all kinds of messages.
func numbersOf() []field[api.Msg, int] {
	var all []field[api.Msg, int]
	for i, of := range []func() api.Msg{ask, reply, breaks, flush} {
		kind := " of kind " + strconv.Itoa(i+1)
		all = append(all,
			field[api.Msg, int]{"Client" + kind, of, func(m *api.Msg, n int) { m.Client = n }},
			field[api.Msg, int]{"Life" + kind, of, func(m *api.Msg, n int) { m.Life = n }},
			field[api.Msg, int]{"Seq" + kind, of, func(m *api.Msg, n int) { m.Seq = n }},
			field[api.Msg, int]{"epoch" + kind, of, func(m *api.Msg, n int) { m.Mark = complex(float64(n), imag(m.Mark)) }},
			field[api.Msg, int]{"number" + kind, of, func(m *api.Msg, n int) { m.Mark = complex(real(m.Mark), float64(n)) }},
			field[api.Msg, int]{"Version" + kind, of, func(m *api.Msg, n int) { m.Version = n }},
			field[api.Msg, int]{"Err" + kind, of, func(m *api.Msg, n int) { m.Err = api.Errno(n) }},
		)
	}
	all = append(all,
		field[api.Msg, int]{"Op.Dir", ask, func(m *api.Msg, n int) { m.Op.Dir = n }},
		field[api.Msg, int]{"Op.To", ask, func(m *api.Msg, n int) { m.Op.To = n }},
		field[api.Msg, int]{"Op.Mode", ask, func(m *api.Msg, n int) { m.Op.Mode = n }},
	)
	for i, entry := range reply().Entries {
		at := strconv.Itoa(i)
		all = append(all, field[api.Msg, int]{"Key.Dir of entry " + at, reply, func(m *api.Msg, n int) { m.Entries[i].Key.Dir = n }})
		if !entry.Neg {
			all = append(all,
				field[api.Msg, int]{"Node.ID of entry " + at, reply, func(m *api.Msg, n int) { m.Entries[i].Node.ID = n }},
				field[api.Msg, int]{"Node.Mode of entry " + at, reply, func(m *api.Msg, n int) { m.Entries[i].Node.Mode = n }},
			)
		}
	}
	for i := range breaks().Keys {
		all = append(all, field[api.Msg, int]{"Dir of key " + strconv.Itoa(i), breaks, func(m *api.Msg, n int) { m.Keys[i].Dir = n }})
	}
	return all
}

// textsOf are all fields that hold a text, of all kinds of messages.
func textsOf() []field[api.Msg, string] {
	all := []field[api.Msg, string]{
		{"Op.Name", ask, func(m *api.Msg, s string) { m.Op.Name = s }},
		{"Op.New", ask, func(m *api.Msg, s string) { m.Op.New = s }},
		{"Op.Target", ask, func(m *api.Msg, s string) { m.Op.Target = s }},
	}
	for i, entry := range reply().Entries {
		at := strconv.Itoa(i)
		all = append(all, field[api.Msg, string]{"Key.Name of entry " + at, reply, func(m *api.Msg, s string) { m.Entries[i].Key.Name = s }})
		if !entry.Neg {
			all = append(all, field[api.Msg, string]{"Node.Target of entry " + at, reply, func(m *api.Msg, s string) { m.Entries[i].Node.Target = s }})
		}
	}
	for i := range breaks().Keys {
		all = append(all, field[api.Msg, string]{"Name of key " + strconv.Itoa(i), breaks, func(m *api.Msg, s string) { m.Keys[i].Name = s }})
	}
	return all
}

// numbersOfNotes are all fields that hold a number, of all kinds of notes.
func numbersOfNotes() []field[api.Note, int] {
	all := []field[api.Note, int]{
		{"Epoch of a boot", boot, func(n *api.Note, x int) { n.Epoch = x }},
		{"Epoch of a base", base, func(n *api.Note, x int) { n.Epoch = x }},
		{"Version", base, func(n *api.Note, x int) { n.Version = x }},
		{"Next", base, func(n *api.Note, x int) { n.Next = x }},
		{"Key.Dir", node, func(n *api.Note, x int) { n.Entry.Key.Dir = x }},
		{"Node.ID", node, func(n *api.Note, x int) { n.Entry.Node.ID = x }},
		{"Node.Mode", node, func(n *api.Note, x int) { n.Entry.Node.Mode = x }},
		{"Op.Dir", done, func(n *api.Note, x int) { n.Op.Dir = x }},
		{"Op.To", done, func(n *api.Note, x int) { n.Op.To = x }},
		{"Op.Mode", done, func(n *api.Note, x int) { n.Op.Mode = x }},
	}
	for i, of := range []func() api.Note{seen, done} {
		kind := " of kind " + strconv.Itoa(api.NoteSeen+i)
		all = append(all,
			field[api.Note, int]{"Client" + kind, of, func(n *api.Note, x int) { n.Client = x }},
			field[api.Note, int]{"Life" + kind, of, func(n *api.Note, x int) { n.Seen.Life = x }},
			field[api.Note, int]{"Seq" + kind, of, func(n *api.Note, x int) { n.Seen.Seq = x }},
			field[api.Note, int]{"Err" + kind, of, func(n *api.Note, x int) { n.Seen.Err = api.Errno(x) }},
		)
	}
	return all
}

// textsOfNotes are all fields that hold a text, of all kinds of notes.
func textsOfNotes() []field[api.Note, string] {
	return []field[api.Note, string]{
		{"Key.Name", node, func(n *api.Note, s string) { n.Entry.Key.Name = s }},
		{"Node.Target", node, func(n *api.Note, s string) { n.Entry.Node.Target = s }},
		{"Op.Name", done, func(n *api.Note, s string) { n.Op.Name = s }},
		{"Op.New", done, func(n *api.Note, s string) { n.Op.New = s }},
		{"Op.Target", done, func(n *api.Note, s string) { n.Op.Target = s }},
	}
}

// rightNumbers are numbers that can be written, and how many groups each takes.
func rightNumbers() map[int]int {
	return map[int]int{
		0: 1, 1: 1, 2: 1, 126: 1, 127: 1, 128: 2, 129: 2, 255: 2, 256: 2, 300: 2, 1<<14 - 1: 2, 1 << 14: 3, 1<<21 - 1: 3, 1 << 21: 4,
		1<<28 - 1: 4, 1 << 28: 5, 1<<32 + 1: 5, 1<<35 - 1: 5, 1 << 35: 6, 1<<35 + 128: 6, api.MaxMark - 1: 6, api.MaxMark: 6,
	}
}

// wrongNumbers are numbers that can't be written.
func wrongNumbers() []int {
	return []int{-1, -2, -128, -1 << 31, -1 << 32, -api.MaxMark, math.MinInt, math.MinInt + 1,
		api.MaxMark + 1, api.MaxMark + 128, 2*api.MaxMark - 1, 2 * api.MaxMark, 1<<42 - 1, 1 << 42, 1<<42 + 1, 1<<49 + 1, 1 << 56, 1 << 62, math.MaxInt}
}

// rightTexts are texts that can be written.
func rightTexts() []string {
	every := make([]byte, 256)
	for i := range every {
		every[i] = byte(i)
	}
	return []string{"", "a", "/", ".", "..", "\x00", "\xff", "\x80\x80", "ü", "a b\n", string(every[:96]), string(every[96:192]), string(every[160:]), long()[1:], long()}
}

// wrongTexts are texts that are too long.
func wrongTexts() []string {
	return []string{long() + "x", long() + "\x00", strings.Repeat("\x00", 97), strings.Repeat("a/", 49), strings.Repeat("x", 127), strings.Repeat("x", 128), strings.Repeat("x", 256), strings.Repeat("x", 256+96), strings.Repeat("x", 1<<16)}
}

// wrongMarks are marks that are not good.
func wrongMarks() []complex128 {
	var all []complex128
	for _, part := range []float64{-1, -0.5, 0.5, 1.5, math.SmallestNonzeroFloat64, -math.SmallestNonzeroFloat64, api.MaxMark + 0.5, api.MaxMark + 1, 1 << 63, 1 << 64, math.MaxFloat64, math.NaN(), math.Inf(1), math.Inf(-1)} {
		all = append(all, complex(part, 0), complex(0, part), complex(part, 3), complex(3, part), complex(part, part))
	}
	return all
}

// wrongKinds are kinds that none is, where those from 1 to last are; among them are some whose lowest byte is one that is right.
func wrongKinds(last int) []int {
	all := []int{0, -1, -2, -255, last + 1, last + 2, 127, 128, 255, 256, 1 << 32, math.MaxInt, math.MinInt}
	for kind := 1; kind <= last; kind++ {
		all = append(all, kind+256, kind-256, 1<<16+kind, 1<<32+kind, kind+math.MinInt)
	}
	return all
}
