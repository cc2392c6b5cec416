package serve

import (
	"slices"

	"vista/api"
	"vista/scroll"
	"vista/snapshot"
	"vista/tree"
	"vista/wire"
)

// keep writes the note of a mutation into the journal: done is how it was answered, tried the tree behind it. With any error it is not kept.
func (s *Server) keep(m api.Msg, tried *tree.Tree, done api.Seen) api.Errno {
	record, e := wire.Pack(api.Note{Kind: api.NoteDone, Client: m.Client, Seen: done, Op: m.Op})
	if e != api.OK {
		return e
	}
	seen := slices.Clone(s.seen)
	seen[m.Client-1] = done
	if !s.fits(tried, seen) {
		return api.ErrFull
	}
	e = s.journal.Append(record)
	if e != api.ErrFull {
		return e
	}
	// The snapshot is that ahead of the mutation: its note stands behind it, and a power that is lost between the two loses the mutation alone.
	e = s.journal.Turn(snapshot.Records(s.epoch, s.tree, s.seen))
	if e != api.OK {
		return e
	}
	return s.journal.Append(record)
}

// fits tells whether the journal can be turned to such a snapshot, now or in a later start, with a block left behind it.
func (s *Server) fits(t *tree.Tree, seen []api.Seen) bool {
	if t.Version() > api.MaxMark || t.Next() > api.MaxMark {
		return false
	}
	pieces := 0
	for _, record := range snapshot.Records(s.epoch, t, seen) {
		pieces += scroll.Blocks(record)
	}
	return pieces < s.journal.Half()
}
