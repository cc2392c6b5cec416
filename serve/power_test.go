package serve_test

import (
	"slices"
	"testing"

	"vista/api"
	"vista/block"
	"vista/scroll"
	"vista/serve"
	"vista/tree"
)

// P9.2, P9.3: ErrPower

// state is what a journal must bring back.
type state struct {
	tree *tree.Tree
	seen []api.Seen
}

// stateOf is that of a server.
func stateOf(s *serve.Server, clients int) state {
	now := state{tree: s.Tree()}
	for client := range clients {
		now.seen = append(now.seen, s.Seen(client+1))
	}
	return now
}

// recovered is what the notes of a disk's journal come to, gone through from the first one on; begin is what they begin with, where they do not begin with a snapshot.
func recovered(t *testing.T, d *block.Disk, begin state) state {
	t.Helper()
	now := state{tree: begin.tree.Copy(), seen: slices.Clone(begin.seen)}
	var entries []api.Entry
	version, next, open := 0, 0, false
	load := func() {
		if open {
			now.tree, open = loaded(t, version, next, entries...), false
		}
	}
	for _, n := range notes(t, d) {
		switch n.Kind {
		case api.NoteBase:
			version, next, open = n.Version, n.Next, true
			now.seen = make([]api.Seen, len(begin.seen))
		case api.NoteNode:
			entries = append(entries, n.Entry)
		case api.NoteSeen:
			now.seen[n.Client-1] = n.Seen
		case api.NoteDone:
			load()
			if _, _, e := now.tree.Apply(n.Op); e != n.Seen.Err {
				t.Errorf("the note %+v: %d", n, e)
			}
			now.seen[n.Client-1] = n.Seen
		}
	}
	load()
	return now
}

// same fails if two states are not the same.
func same(t *testing.T, what string, got, want state) {
	t.Helper()
	if got.tree.Version() != want.tree.Version() || got.tree.Next() != want.tree.Next() || !slices.Equal(got.tree.Dump(), want.tree.Dump()) {
		t.Errorf("%s: the tree is %d %d %v, not %d %d %v", what,
			got.tree.Version(), got.tree.Next(), got.tree.Dump(), want.tree.Version(), want.tree.Next(), want.tree.Dump())
	}
	if !slices.Equal(got.seen, want.seen) {
		t.Errorf("%s: seen %v, not %v", what, got.seen, want.seen)
	}
}

// cuts does an ask with each fuse that is too short for its writes, and with the one that is not.
func cuts(t *testing.T, writes, half, room int, begin state, a api.Msg, want api.Errno) {
	t.Helper()
	for fuse := range writes + 1 {
		s, d := halves(t, half, room, begin.tree, begin.seen...)
		before := stateOf(s, len(begin.seen))
		if e := d.Fuse(fuse); e != api.OK {
			t.Fatalf("Fuse: %d", e)
		}
		if fuse == writes {
			keeps(t, s, a, want)
			same(t, "kept", recovered(t, d, begin), stateOf(s, len(begin.seen)))
			if d.Fuse(0) != api.OK {
				t.Error("the power is off")
			}
			continue
		}
		loses(t, s, a)
		// It was not done, and will not be told as done.
		same(t, "the server", stateOf(s, len(begin.seen)), before)
		same(t, "the disk", recovered(t, d, begin), before)
		loses(t, s, a)
		// Who starts over what the disk holds does it once.
		d.Power()
		back := recovered(t, d, begin)
		j, _, e := scroll.Open(d)
		if e != api.OK {
			t.Fatalf("Open: %d", e)
		}
		conf := limits()
		conf.Clients = len(begin.seen)
		s, _ = serve.New(conf, j, back.tree, back.seen, 4)
		a := a
		a.Mark = 4
		keeps(t, s, a, want)
		replies(t, s, a, 4, s.Version(), want)
		same(t, "once more", recovered(t, d, begin), stateOf(s, len(begin.seen)))
	}
}

func TestPowerIsLost(t *testing.T) {
	begin := state{tree: loaded(t, 5, 9, dir(2, 1, "a"), link(3, 1, "l", target(96)), dir(4, 2, "b")), seen: []api.Seen{{Life: 1, Seq: 1}, {}}}
	snapshot := 1 + 1 + 2 + 1 + 1
	long := mkdir(1, "c")
	long.Target, long.New = target(96), target(51)
	refused := mkdir(1, "a")
	refused.New = target(96)
	for _, x := range []struct {
		op     api.Op
		e      api.Errno
		pieces int
	}{
		{chmod(1, "a", 5), api.OK, 1}, {long, api.OK, 4}, {mkdir(1, "a"), api.ErrExist, 1}, {refused, api.ErrExist, 3}, {rename(2, "b", 1, "z"), api.OK, 1},
	} {
		for client := 1; client <= 2; client++ {
			a := ask(client, 1, 2, 3, x.op)
			// An Append.
			cuts(t, x.pieces, 20, 20, begin, a, x.e)
			cuts(t, x.pieces, 20, x.pieces, begin, a, x.e)
			// A Turn, its header, and an Append.
			cuts(t, snapshot+1+x.pieces, 20, x.pieces-1, begin, a, x.e)
			cuts(t, snapshot+1+x.pieces, 20, 0, begin, a, x.e)
		}
	}
}

// Reads, repeated mutations and those that can't be kept write nothing: they find no power lost.
func TestWithoutWrites(t *testing.T) {
	s, d := begun(t)
	made := ask(2, 1, 1, 1, mkdir(1, "b"))
	keeps(t, s, made, api.OK)
	d.Cut()
	before := d.Writes()
	replies(t, s, ask(1, 3, 6, 1, syncing()), 1+2i, 3, api.OK)
	replies(t, s, ask(2, 1, 2, 1, look(1, "b")), 1, 3, api.OK, dir(4, 1, "b"))
	replies(t, s, ask(2, 1, 3, 0, mkdir(1, "d")), 1, 3, api.ErrEpoch)
	says(t, s, ask(2, 1, 1, 1, mkdir(1, "d")))
	bad := mkdir(1, "d")
	bad.To = -1
	replies(t, s, ask(2, 1, 4, 1, bad), 1, 3, api.ErrFull)
	replies(t, s, ask(2, 1, 4, 1, mkdir(1, "d")), 1, 3, api.ErrFull)
	loses(t, s, ask(2, 1, 5, 1, mkdir(1, "d")))
	loses(t, s, ask(2, 1, 6, 1, mkdir(1, "b")))
	if d.Writes() != before || s.Version() != 3 || s.Seen(2) != (api.Seen{Life: 1, Seq: 1}) {
		t.Errorf("writes %d, version %d, seen %v", d.Writes(), s.Version(), s.Seen(2))
	}
}
