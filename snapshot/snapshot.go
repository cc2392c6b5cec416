// Package snapshot tells a tree and what the clients' last mutations came to as the records of a journal. It stands beside the layers: a server asks whether a snapshot fits ahead of each mutation, and a start relies on that, so both must mean the same one.
package snapshot

import (
	"vista/api"
	"vista/tree"
	"vista/wire"
)

// Records are those of a journal that says just this epoch, tree and seen (client 1 first). A note that is not plain has no bytes, and so a journal refuses to be turned to it.
func Records(epoch int, t *tree.Tree, seen []api.Seen) [][]byte {
	var records [][]byte
	for _, note := range notes(epoch, t, seen) {
		record, _ := wire.Pack(note)
		records = append(records, record)
	}
	return records
}

func notes(epoch int, t *tree.Tree, seen []api.Seen) []api.Note {
	all := []api.Note{{Kind: api.NoteBase, Epoch: epoch, Version: t.Version(), Next: t.Next()}}
	for _, entry := range t.Dump() {
		all = append(all, api.Note{Kind: api.NoteNode, Entry: entry})
	}
	for i, last := range seen {
		if last.Life > 0 {
			all = append(all, api.Note{Kind: api.NoteSeen, Client: i + 1, Seen: last})
		}
	}
	return all
}
