package boot

import (
	"vista/api"
	"vista/tree"
	"vista/wire"
)

// past is what the notes of a journal come to.
type past struct {
	epoch int
	// version, next and entries are what the tree begins with. There is no tree till they are all told: a part of them may hang below nothing.
	version, next int
	entries       []api.Entry
	tree          *tree.Tree
	// seen begins with client 1.
	seen []api.Seen
}

// beginning is the past of a journal without notes.
func beginning(clients int) *past {
	return &past{next: tree.New().Next(), seen: make([]api.Seen, clients)}
}

// follow goes through the notes, from the first one on. It is false if one of them is none, or may not stand where it does.
func (p *past) follow(records [][]byte) bool {
	followed, last := 0, 0
notes:
	for _, record := range records {
		n, e := wire.Unpack(record)
		if e != api.OK || !mayFollow(n.Kind, last) {
			break notes
		}
		switch n.Kind {
		case api.NoteBoot:
			p.epoch = n.Epoch
		case api.NoteBase:
			p.epoch, p.version, p.next = n.Epoch, n.Version, n.Next
		case api.NoteNode:
			p.entries = append(p.entries, n.Entry)
		case api.NoteSeen:
			if !p.sees(n) {
				break notes
			}
		case api.NoteDone:
			if !p.sees(n) || !p.redoes(n) {
				break notes
			}
		}
		followed, last = followed+1, n.Kind
	}
	return followed == len(records) && p.grows()
}

// mayFollow tells whether a note of a kind may stand behind one of the kind last, which is 0 at the beginning.
func mayFollow(kind, last int) bool {
	switch kind {
	case api.NoteBase:
		return last == 0
	case api.NoteNode:
		return last == api.NoteBase || last == api.NoteNode
	case api.NoteSeen:
		return last == api.NoteBase || last == api.NoteNode || last == api.NoteSeen
	}
	return true
}

// sees makes a note's Seen that of its client. It is false if there is no such client.
func (p *past) sees(n api.Note) bool {
	if n.Client < 1 || n.Client > len(p.seen) {
		return false
	}
	p.seen[n.Client-1] = n.Seen
	return true
}

// redoes does a mutation once more. It is false if it does not come to what the note says, or to a tree that no snapshot could tell.
func (p *past) redoes(n api.Note) bool {
	if !p.grows() {
		return false
	}
	_, _, e := p.tree.Apply(n.Op)
	return e == n.Seen.Err && p.tree.Version() <= api.MaxMark && p.tree.Next() <= api.MaxMark
}

// grows makes the tree of what it begins with, if there is none yet. It is false if that is no tree.
func (p *past) grows() bool {
	if p.tree != nil {
		return true
	}
	t, e := tree.Load(p.entries, p.version, p.next)
	p.tree = t
	return e == api.OK
}
