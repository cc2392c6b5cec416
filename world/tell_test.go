package world_test

import (
	"slices"
	"testing"

	"vista/api"
	"vista/boot"
	"vista/world"
)

// P16.3

// kept fails if History is another one, or not that of the tree and of the disk.
func kept(t *testing.T, what string, w *world.World, want ...api.Op) {
	t.Helper()
	if got := w.History(); !slices.Equal(got, want) {
		t.Errorf("%s: History is %v, not %v", what, got, want)
	}
	base, entries, _, e := boot.Read(w.Disk(), 2)
	if e != api.OK || base.Version != len(want) || w.Up() && (w.Version() != len(want) || !slices.Equal(w.Tree(), entries)) {
		t.Errorf("%s: the disk says %+v, %v, %d; the server version %d, %v", what, base, entries, e, w.Version(), w.Tree())
	}
}

func TestHistory(t *testing.T) {
	w := knows(t, limits(2), 99)
	kept(t, "at the beginning", w)
	a := api.Op{Kind: api.OpMkdir, Dir: 1, Name: "a", Mode: 7}
	does(t, w, 1, mkdir("/a"))
	kept(t, "one", w, a)
	for _, c := range []api.Call{mkdir("/a"), unlink("/a"), unlink("/x"), rename("/a", "/a/b"), lookup("/a"), readdir("/"), sync} {
		does(t, w, 1, c)
		kept(t, "refused, and reads", w, a)
	}
	// Doubled, and asked again: behind other mutations too.
	b := api.Op{Kind: api.OpSymlink, Dir: 2, Name: "b", Target: "../c"}
	w.Do(calls(1, symlink("/a/b", "../c")))
	for range 3 {
		w.Run(of(api.EvDouble, 0), at(1, api.EvTick))
	}
	w.Do(deliver(0))
	kept(t, "doubled", w, a, b)
	c := api.Op{Kind: api.OpRename, Dir: 2, Name: "b", To: 1, New: "c"}
	old := w.Letters()
	w.Run(at(1, api.EvCancel), calls(1, rename("/a/b", "/c")))
	calm(t, w)
	kept(t, "another one", w, a, b, c)
	for _, l := range old {
		w.Lay(l)
	}
	calm(t, w)
	kept(t, "old letters", w, a, b, c)

	// One that is never answered: its reply is lost, and the client gives it up.
	d := api.Op{Kind: api.OpCreate, Dir: 1, Name: "d", Mode: 3}
	w.Run(calls(2, create("/d", 3)), deliver(0))
	loses(t, w)
	w.Do(at(2, api.EvCrash))
	kept(t, "not answered", w, a, b, c, d)
	// One that is lost ahead of the server, and one whose power is lost.
	w.Run(calls(2, create("/e", 3)), of(api.EvDrop, 0), at(2, api.EvCancel))
	does(t, w, 2, sync)
	w.Run(calls(2, create("/f", 3)), of(api.EvFuse, 0), deliver(0))
	kept(t, "without power", w, a, b, c, d)
	// One that was kept ahead of a loss of power, and whose reply is under way still: it is done once.
	g := api.Op{Kind: api.OpUnlink, Dir: 1, Name: "c"}
	w.Run(at(2, api.EvCancel), of(api.EvBoot, -1))
	does(t, w, 2, sync)
	w.Run(calls(2, unlink("/c")), of(api.EvDouble, 0), of(api.EvFuse, 1), deliver(0), of(api.EvCut, 0), of(api.EvDrop, 1))
	kept(t, "ahead of a loss of power", w, a, b, c, d, g)
	w.Run(of(api.EvBoot, 0), of(api.EvBoot, -1), at(2, api.EvTick))
	steps := calm(t, w)
	if !slices.ContainsFunc(steps, func(s api.Step) bool { return s.Client == 2 && s.Done && s.Answer.Err == api.OK && s.Version == 5 }) {
		t.Errorf("the mutation that was done is not answered: %+v", steps)
	}
	kept(t, "asked again behind a start", w, a, b, c, d, g)
}

// A mutation that finds no room on the disk is none of History.
func TestHistoryWithoutRoom(t *testing.T) {
	w := knows(t, limits(1), 9)
	does(t, w, 1, create("/a", 3))
	want := []api.Op{{Kind: api.OpCreate, Dir: 1, Name: "a", Mode: 3}}
	for range 5 {
		if answer := does(t, w, 1, create("/b", 3)); answer.Err != api.ErrFull || answer.Version != 1 {
			t.Errorf("no room: %+v", answer)
		}
		kept(t, "no room", w, want...)
	}
	does(t, w, 1, rename("/a", "/b"))
	want = append(want, api.Op{Kind: api.OpRename, Dir: 1, Name: "a", To: 1, New: "b"})
	kept(t, "room", w, want...)
}

// What is told of a client, and of the server's session of it.
func TestOfClients(t *testing.T) {
	conf := limits(2)
	conf.Promises = 2
	w := knows(t, conf, 99)
	does(t, w, 1, readdir("/"))
	does(t, w, 1, lookup("/x"))
	does(t, w, 2, create("/x", 3))
	w.Do(calls(1, lookup("/y")))
	x, y := api.Key{Dir: 1, Name: "x"}, api.Key{Dir: 1, Name: "y"}
	all := api.Key{Dir: 1}
	got := tells(w, 2)
	want := got
	want.Clients = []ofClient{
		{},
		{Life: 1, Seen: 1, Busy: true, Mark: 1 + 1i, Promises: []api.Key{all}, Queue: []api.Break{{Mark: 1 + 1i, Version: 1, Keys: []api.Key{x}}}},
		{Life: 1, Seen: 1, Mark: 1, Entries: []api.Entry{{Key: x, Node: api.Node{ID: 2, Kind: api.KindFile, Mode: 3}}}, Promises: []api.Key{x}},
		{},
	}
	alike(t, "two clients", got, want)
	w.Do(deliver(0))
	w.Do(deliver(0))
	does(t, w, 2, unlink("/x"))
	if got := w.Promises(1); !slices.Equal(got, []api.Key{all, y}) || len(w.Queue(1)) != 1 {
		t.Errorf("promised are %v, queued %v", got, w.Queue(1))
	}
	does(t, w, 2, create("/y", 3))
	loses(t, w)
	does(t, w, 1, readdir("/"))
	if !w.Whole(1, 1) || w.Whole(2, 1) || w.Whole(1, 2) {
		t.Errorf("whole: %v, %v, %v", w.Whole(1, 1), w.Whole(2, 1), w.Whole(1, 2))
	}
	// Of a break to client 1 and of one to client 2 and its reply the first one is lost: the reply to client 1 has to wait.
	w.Run(calls(2, create("/z", 3)), deliver(0), of(api.EvDrop, 0), calls(1, sync), deliver(-1), deliver(-1))
	if w.Held(1) != 1 || w.Held(2) != 0 || !w.Busy(1) {
		t.Errorf("held: %d, %d; busy: %v", w.Held(1), w.Held(2), w.Busy(1))
	}
	// A server that is down has no sessions; a client is as it was.
	was := tells(w, 2)
	w.Do(of(api.EvCut, 0))
	for c := range was.Clients {
		was.Clients[c].Promises, was.Clients[c].Queue = nil, nil
	}
	now := tells(w, 2)
	was.Up, was.Epoch, was.Version, was.Tree = false, 0, 0, nil
	alike(t, "down", now, was)
	w.Do(of(api.EvBoot, -1))
	if len(w.Promises(1)) != 0 || len(w.Queue(1)) != 0 {
		t.Errorf("a new server has promised %v, and queued %v", w.Promises(1), w.Queue(1))
	}
}
