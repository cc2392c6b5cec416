package snapshot_test

import (
	"math"
	"slices"
	"testing"

	"vista/api"
	"vista/snapshot"
	"vista/tree"
	"vista/wire"
)

// told fails if records are not those of these notes.
func told(t *testing.T, records [][]byte, notes ...api.Note) {
	t.Helper()
	if len(records) != len(notes) {
		t.Fatalf("%d records, not %d", len(records), len(notes))
	}
	for i, record := range records {
		if n, _ := wire.Unpack(record); n != notes[i] {
			t.Errorf("record %d: %+v, not %+v", i, n, notes[i])
		}
	}
}

func TestTheEmptyTree(t *testing.T) {
	told(t, snapshot.Records(0, tree.New(), nil), api.Note{Kind: api.NoteBase, Next: 2})
	told(t, snapshot.Records(api.MaxMark, tree.New(), make([]api.Seen, 4)), api.Note{Kind: api.NoteBase, Epoch: api.MaxMark, Next: 2})
}

func TestAllThatIsThere(t *testing.T) {
	entries := []api.Entry{
		{Key: api.Key{Dir: 1, Name: "a"}, Node: api.Node{ID: 3, Kind: api.KindDir, Mode: 7}},
		{Key: api.Key{Dir: 1, Name: "b"}, Node: api.Node{ID: 2, Kind: api.KindLink, Target: "a/c"}},
		{Key: api.Key{Dir: 3, Name: "c"}, Node: api.Node{ID: 4, Kind: api.KindFile, Mode: 511}},
	}
	tr, e := tree.Load(entries, 9, 6)
	if e != api.OK {
		t.Fatalf("Load: %d", e)
	}
	// A client whose life is none has done nothing.
	seen := []api.Seen{{Life: 1, Seq: 2}, {Seq: 5, Err: api.ErrExist}, {Life: -1}, {Life: 7, Err: api.ErrExist}}
	before := slices.Clone(seen)
	want := []api.Note{{Kind: api.NoteBase, Epoch: 5, Version: 9, Next: 6}}
	for _, entry := range entries {
		want = append(want, api.Note{Kind: api.NoteNode, Entry: entry})
	}
	want = append(want, api.Note{Kind: api.NoteSeen, Client: 1, Seen: seen[0]}, api.Note{Kind: api.NoteSeen, Client: 4, Seen: seen[3]})
	told(t, snapshot.Records(5, tr, seen), want...)
	if !slices.Equal(seen, before) || !slices.Equal(tr.Dump(), entries) || tr.Version() != 9 {
		t.Error("what was handed in was changed")
	}
}

// What no note can tell has no bytes, and is a record still: a journal refuses it.
func TestWhatNoNoteTells(t *testing.T) {
	for _, records := range [][][]byte{
		snapshot.Records(-1, tree.New(), nil),
		snapshot.Records(api.MaxMark+1, tree.New(), nil),
		snapshot.Records(0, tree.New(), []api.Seen{{Life: 1, Seq: -1}})[1:],
		snapshot.Records(0, tree.New(), []api.Seen{{Life: math.MaxInt}})[1:],
	} {
		if len(records) != 1 || len(records[0]) != 0 {
			t.Errorf("records %v", records)
		}
	}
}
