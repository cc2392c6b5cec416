package wire_test

import (
	"bytes"
	"strconv"
	"testing"

	"vista/api"
	"vista/wire"
)

func TestNotes(t *testing.T) {
	for _, x := range []struct {
		what string
		n    api.Note
		b    []byte
	}{
		{"the chapter's boot", boot(), []byte{1, 7}},
		{"a base", base(), []byte{2, 1, 0xc8, 1, 3}},
		{"a node", node(), []byte{3, 1, 2, 'a', 'b', 0, 0xc8, 1, 3, 5, 4, '.', '.', '/', 'x'}},
		{"a seen", seen(), []byte{4, 2, 3, 0x90, 3, 41}},
		{"a done", done(), []byte{5, 2, 3, 0x90, 3, 41, 10, 8, 2, 'a', 'b', 9, 1, 'c', 0xff, 3, 4, '.', '.', '/', 'd'}},
		{"a boot of 0", api.Note{Kind: api.NoteBoot}, []byte{1, 0}},
		{"a base of zeros", api.Note{Kind: api.NoteBase}, []byte{2, 0, 0, 0}},
		{"a seen of zeros", api.Note{Kind: api.NoteSeen}, []byte{4, 0, 0, 0, 0}},
		{"a node of zeros", api.Note{Kind: api.NoteNode, Entry: api.Entry{Node: api.Node{Kind: api.KindDir}}}, []byte{3, 0, 0, 0, 0, 1, 0, 0}},
		{"a done of zeros", api.Note{Kind: api.NoteDone, Op: api.Op{Kind: api.OpLook}}, []byte{5, 0, 0, 0, 0, 1, 0, 0, 0, 0, 0, 0}},
	} {
		takesNote(t, x.what, x.n, x.b)
	}
	for i, n := range notes() {
		takesNote(t, "note "+strconv.Itoa(i), n, bytesOfNote(n))
	}
}

func TestNumbersInEachFieldOfNotes(t *testing.T) {
	for _, f := range numbersOfNotes() {
		zero := f.of()
		f.set(&zero, 0)
		for n, count := range rightNumbers() {
			x := f.of()
			f.set(&x, n)
			takesNote(t, f.name+" "+strconv.Itoa(n), x, bytesOfNote(x))
			if more := len(bytesOfNote(x)) - len(bytesOfNote(zero)); more != count-1 {
				t.Errorf("%s: %d has %d bytes more than 0", f.name, n, more)
			}
		}
	}
}

func TestTextsInEachFieldOfNotes(t *testing.T) {
	for _, f := range textsOfNotes() {
		for _, s := range rightTexts() {
			n := f.of()
			f.set(&n, s)
			takesNote(t, f.name+" "+strconv.Quote(s), n, bytesOfNote(n))
		}
	}
}

func TestWrongFieldsOfNotes(t *testing.T) {
	for _, f := range numbersOfNotes() {
		for _, x := range wrongNumbers() {
			n := f.of()
			f.set(&n, x)
			refusesNote(t, f.name+" "+strconv.Itoa(x), n)
			refusesNoteBytes(t, f.name+" "+strconv.Itoa(x), bytesOfNote(n))
		}
	}
	for _, f := range textsOfNotes() {
		for _, s := range wrongTexts() {
			n := f.of()
			f.set(&n, s)
			what := f.name + " of " + strconv.Itoa(len(s))
			refusesNote(t, what, n)
			refusesNoteBytes(t, what, bytesOfNote(n))
		}
	}
}

func TestWrongKindsOfNotes(t *testing.T) {
	refusesNote(t, "the zero Note", api.Note{})
	for _, kind := range wrongKinds(api.NoteDone) {
		for _, n := range []api.Note{boot(), base(), node(), seen(), done(), {}} {
			n.Kind = kind
			refusesNote(t, "kind "+strconv.Itoa(kind), n)
		}
		if kind >= 0 && kind < 256 {
			for _, n := range notes() {
				b := bytesOfNote(n)
				b[0] = byte(kind)
				refusesNoteBytes(t, "kind "+strconv.Itoa(kind), b)
				refusesNoteBytes(t, "kind "+strconv.Itoa(kind), b[:1])
			}
		}
	}
	for _, kind := range wrongKinds(api.OpSetattr) {
		n := done()
		n.Op.Kind = kind
		refusesNote(t, "Op.Kind "+strconv.Itoa(kind), n)
		if kind >= 0 && kind < 256 {
			refusesNoteBytes(t, "Op.Kind "+strconv.Itoa(kind), bytesOfNote(n))
		}
	}
	for _, kind := range wrongKinds(api.KindLink) {
		n := node()
		n.Entry.Node.Kind = kind
		refusesNote(t, "Node.Kind "+strconv.Itoa(kind), n)
		if kind >= 0 && kind < 256 {
			refusesNoteBytes(t, "Node.Kind "+strconv.Itoa(kind), bytesOfNote(n))
		}
	}
}

func TestNoNoteIsNeg(t *testing.T) {
	for _, node := range []api.Node{{}, {ID: 2, Kind: api.KindDir}} {
		refusesNote(t, "a Neg entry", api.Note{Kind: api.NoteNode, Entry: api.Entry{Key: api.Key{Dir: 1, Name: "a"}, Neg: true, Node: node}})
	}
	refusesNoteBytes(t, "a Neg entry", []byte{3, 1, 1, 'a', 1})
	refusesNoteBytes(t, "a Neg entry with a node", []byte{3, 1, 1, 'a', 1, 2, 1, 0, 0})
	refusesNote(t, "no entry", api.Note{Kind: api.NoteNode})
	refusesNote(t, "no op", api.Note{Kind: api.NoteDone, Client: 1, Seen: api.Seen{Life: 1, Seq: 1}})
}

// others are the fields of a note, each set to what is not zero, and the kinds whose rows name it.
func others() []struct {
	name  string
	set   func(*api.Note)
	kinds string
} {
	return []struct {
		name  string
		set   func(*api.Note)
		kinds string
	}{
		{"Epoch", func(n *api.Note) { n.Epoch = 1 }, "12"},
		{"Epoch -1", func(n *api.Note) { n.Epoch = -1 }, ""},
		{"Version", func(n *api.Note) { n.Version = 1 }, "2"},
		{"Next", func(n *api.Note) { n.Next = 1 }, "2"},
		{"Client", func(n *api.Note) { n.Client = 1 }, "45"},
		{"Entry.Key.Dir", func(n *api.Note) { n.Entry.Key.Dir = 1 }, "3"},
		{"Entry.Key.Name", func(n *api.Note) { n.Entry.Key.Name = "x" }, "3"},
		{"Entry.Neg", func(n *api.Note) { n.Entry.Neg = true }, ""},
		{"Entry.Node.ID", func(n *api.Note) { n.Entry.Node.ID = 1 }, "3"},
		{"Entry.Node.Kind", func(n *api.Note) { n.Entry.Node.Kind = 1 }, "3"},
		{"Entry.Node.Mode", func(n *api.Note) { n.Entry.Node.Mode = 1 }, "3"},
		{"Entry.Node.Target", func(n *api.Note) { n.Entry.Node.Target = "x" }, "3"},
		{"Seen.Life", func(n *api.Note) { n.Seen.Life = 1 }, "45"},
		{"Seen.Seq", func(n *api.Note) { n.Seen.Seq = 1 }, "45"},
		{"Seen.Err", func(n *api.Note) { n.Seen.Err = 1 }, "45"},
		{"Op.Kind", func(n *api.Note) { n.Op.Kind = 1 }, "5"},
		{"Op.Dir", func(n *api.Note) { n.Op.Dir = 1 }, "5"},
		{"Op.Name", func(n *api.Note) { n.Op.Name = "x" }, "5"},
		{"Op.To", func(n *api.Note) { n.Op.To = 1 }, "5"},
		{"Op.New", func(n *api.Note) { n.Op.New = "x" }, "5"},
		{"Op.Mode", func(n *api.Note) { n.Op.Mode = 1 }, "5"},
		{"Op.Target", func(n *api.Note) { n.Op.Target = "x" }, "5"},
	}
}

func TestOtherFieldsOfNotesAreZero(t *testing.T) {
	for _, of := range []func() api.Note{boot, base, node, seen, done} {
		for _, x := range others() {
			n := of()
			x.set(&n)
			what := x.name + " in kind " + strconv.Itoa(n.Kind)
			if bytes.Contains([]byte(x.kinds), []byte(strconv.Itoa(n.Kind))) {
				takesNote(t, what, n, bytesOfNote(n))
			} else {
				refusesNote(t, what, n)
			}
		}
	}
}

func TestTheChaptersWrongNote(t *testing.T) {
	refusesNoteBytes(t, "the chapter's", []byte{2, 1, 2})
}

// P6.4

func TestTheLongestNotesFitARecord(t *testing.T) {
	for kind, want := range map[int]int{
		api.NoteBoot: 7, api.NoteBase: 19, api.NoteNode: 1 + 6 + 97 + 1 + 6 + 1 + 6 + 97, api.NoteSeen: 25, api.NoteDone: 25 + 1 + 3*6 + 3*97,
	} {
		b, e := wire.Pack(fullNote(kind))
		if e != api.OK || len(b) != want || len(b) > api.MaxRecord {
			t.Errorf("the longest note of kind %d: %d bytes, %d, not %d", kind, len(b), e, want)
		}
	}
}

// R3

func TestNotesLeaveTheirBytes(t *testing.T) {
	for _, n := range notes() {
		b := roomy(bytesOfNote(n))
		was := bytes.Clone(b[:cap(b)])
		got, _ := wire.Unpack(b)
		if !bytes.Equal(b[:cap(b)], was) {
			t.Errorf("Unpack(%s) has changed its bytes", brief(b))
		}
		clear(b[:cap(b)])
		if got != n {
			t.Errorf("%v became %v with its bytes", n, got)
		}
		first, _ := wire.Pack(n)
		second, _ := wire.Pack(n)
		clear(first[:cap(first)])
		if !bytes.Equal(second, bytesOfNote(n)) {
			t.Errorf("two answers of Pack share memory: %v", n)
		}
	}
}
