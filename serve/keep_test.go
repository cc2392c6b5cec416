package serve_test

import (
	"math"
	"slices"
	"strings"
	"testing"

	"vista/api"
	"vista/block"
	"vista/scroll"
	"vista/serve"
	"vista/tree"
)

// P9.3

// target is a link's target of n bytes.
func target(n int) string {
	return strings.Repeat("x/", n/2) + strings.Repeat("x", n%2)
}

func base(epoch, version, next int) api.Note {
	return api.Note{Kind: api.NoteBase, Epoch: epoch, Version: version, Next: next}
}

func node(entry api.Entry) api.Note { return api.Note{Kind: api.NoteNode, Entry: entry} }

func seenOf(client, life, seq int, e api.Errno) api.Note {
	return api.Note{Kind: api.NoteSeen, Client: client, Seen: api.Seen{Life: life, Seq: seq, Err: e}}
}

func boot(epoch int) api.Note { return api.Note{Kind: api.NoteBoot, Epoch: epoch} }

// halves is a server of epoch 3 whose journal has halves of so many blocks, of which all but room are full of NoteBoots.
func halves(t *testing.T, half, room int, tr *tree.Tree, seen ...api.Seen) (*serve.Server, *block.Disk) {
	t.Helper()
	d, j := formatted(t, 2*half+1)
	for j.Room() > room {
		if e := j.Append([]byte{api.NoteBoot, 3}); e != api.OK {
			t.Fatalf("Append: %d", e)
		}
	}
	conf := limits()
	conf.Clients = len(seen)
	s, e := serve.New(conf, j, tr, seen, 3)
	if e != api.OK {
		t.Fatalf("New: %d", e)
	}
	return s, d
}

// keeps fails if a mutation is not kept and answered with this error.
func keeps(t *testing.T, s *serve.Server, a api.Msg, e api.Errno) {
	t.Helper()
	got, power := s.Handle(a)
	if power != api.OK || len(got) == 0 {
		t.Fatalf("%v: %v, %d", a, got, power)
	}
	if last := got[len(got)-1]; last.Kind != api.MsgReply || last.Err != e {
		t.Errorf("%v: %v, not %d", a, last, e)
	}
	if want := (api.Seen{Life: a.Life, Seq: a.Seq, Err: e}); s.Seen(a.Client) != want {
		t.Errorf("%v: seen %v, not %v", a, s.Seen(a.Client), want)
	}
}

// full fails if a mutation is not answered with ErrFull alone, or changes what the server tells (its disk is left to the caller).
func full(t *testing.T, s *serve.Server, a api.Msg) {
	t.Helper()
	// The ask's session may be a new one, and may acknowledge: that is said to have changed ahead.
	if got, e := s.Handle(ask(a.Client, a.Life, 1, a.Mark, again())); e != api.OK {
		t.Fatalf("OpAgain: %v, %d", got, e)
	}
	nothing, _ := block.New(1)
	before := tells(s, nothing)
	replies(t, s, a, s.Mark(a.Client), s.Version(), api.ErrFull)
	if after := tells(s, nothing); after != before {
		t.Errorf("%v: ErrFull has changed\n%s\nto\n%s", a, before, after)
	}
}

func TestTurn(t *testing.T) {
	s, d := halves(t, 4, 4, tree.New(), api.Seen{})
	a := ask(1, 1, 1, 3, mkdir(1, "a"))
	keeps(t, s, a, api.OK)
	want := []api.Note{done(a, api.OK)}
	for i := 2; i <= 4; i++ {
		a = ask(1, 1, i, 3, chmod(1, "a", i))
		keeps(t, s, a, api.OK)
		want = append(want, done(a, api.OK))
	}
	holds(t, "full", d, want...)
	// The snapshot is that ahead of the mutation, whose own note stands behind it.
	mode := func(n int) api.Entry {
		return api.Entry{Key: key(1, "a"), Node: api.Node{ID: 2, Kind: api.KindDir, Mode: n}}
	}
	a = ask(1, 1, 5, 3, chmod(1, "a", 5))
	keeps(t, s, a, api.OK)
	holds(t, "turned", d, base(3, 4, 3), node(mode(4)), seenOf(1, 1, 4, api.OK), done(a, api.OK))
	a = ask(1, 2, 6, 3, mkdir(1, "a"))
	keeps(t, s, a, api.ErrExist)
	holds(t, "turned again", d, base(3, 5, 3), node(mode(5)), seenOf(1, 1, 5, api.OK), done(a, api.ErrExist))
	a = ask(1, 2, 7, 3, rmdir(1, "a"))
	keeps(t, s, a, api.OK)
	holds(t, "turned once more", d, base(3, 5, 3), node(mode(5)), seenOf(1, 2, 6, api.ErrExist), done(a, api.OK))
	a = ask(1, 2, 8, 3, mkdir(1, "b"))
	keeps(t, s, a, api.OK)
	holds(t, "and again", d, base(3, 6, 3), seenOf(1, 2, 7, api.OK), done(a, api.OK))
}

func TestSnapshot(t *testing.T) {
	entries := []api.Entry{dir(2, 1, "B"), link(5, 1, "a", target(96)), dir(4, 2, "a"), link(3, 4, "zzzzzzzzzzzz", "../..")}
	seen := []api.Seen{{Life: 2, Seq: 9, Err: api.ErrInside}, {}, {Life: 0, Seq: 7}, {Life: 1, Seq: 1}}
	s, d := halves(t, 20, 0, loaded(t, 12, 30, entries...), seen...)
	a := ask(3, 1, 1, 3, mkdir(2, "c"))
	keeps(t, s, a, api.OK)
	want := []api.Note{base(3, 12, 30)}
	for _, entry := range entries {
		want = append(want, node(entry))
	}
	want = append(want, seenOf(1, 2, 9, api.ErrInside), seenOf(4, 1, 1, api.OK), done(a, api.OK))
	holds(t, "turned", d, want...)
	// The journal is the caller's, and is used as it is: its pieces stand on the disk, in the other half.
	j, _, _ := scroll.Open(d)
	if j.Generation() != 2 || j.Room() != 20-(1+1+2+1+1+2+1) {
		t.Errorf("generation %d, room %d", j.Generation(), j.Room())
	}
}

func TestSnapshotsOfJustHalf(t *testing.T) {
	for half := 1; half <= 9; half++ {
		s, d := halves(t, half, half, tree.New(), api.Seen{}, api.Seen{})
		var want []api.Note
		// Base, seen, and a node each: in all at most half - 1 pieces.
		for i := range max(half-3, 0) {
			a := ask(1, 1, 1+i, 3, mkdir(1, string(rune('a'+i))))
			keeps(t, s, a, api.OK)
			want = append(want, done(a, api.OK))
		}
		holds(t, "kept", d, want...)
		full(t, s, ask(1, 1, 50, 3, mkdir(1, "one more")))
		full(t, s, ask(2, 1, 50, 3, mkdir(1, "one more")))
		holds(t, "not kept", d, want...)
		if s.Version() != max(half-3, 0) {
			t.Errorf("version %d", s.Version())
		}
	}
}

// A snapshot is counted in pieces: one byte more may be a block more.
func TestSnapshotsAreCountedInPieces(t *testing.T) {
	for _, x := range []struct {
		bytes, pieces int
	}{{1, 1}, {43, 1}, {44, 1}, {45, 2}, {46, 2}, {96, 2}} {
		for half := 3; half <= 6; half++ {
			s, d := halves(t, half, half, tree.New(), api.Seen{})
			a := ask(1, 1, 1, 3, symlink(1, "l", target(x.bytes)))
			if 1+x.pieces+1 > half-1 {
				full(t, s, a)
				holds(t, "not kept", d)
				continue
			}
			keeps(t, s, a, api.OK)
			holds(t, "kept", d, done(a, api.OK))
		}
	}
}

// The snapshot is that behind the mutation: what a refusal adds to it is a client's first seen; what is gone is counted no more.
func TestSnapshotsBehindMutations(t *testing.T) {
	s, d := halves(t, 3, 3, tree.New(), api.Seen{}, api.Seen{})
	first, second := ask(1, 1, 1, 3, rmdir(1, "a")), ask(1, 2, 1, 3, mkdir(7, "a"))
	keeps(t, s, first, api.ErrNotFound)
	full(t, s, ask(2, 1, 1, 3, rmdir(1, "a")))
	keeps(t, s, second, api.ErrStale)
	holds(t, "two refusals", d, done(first, api.ErrNotFound), done(second, api.ErrStale))

	s, _ = halves(t, 4, 4, loaded(t, 1, 3, dir(2, 1, "a")), api.Seen{Life: 1, Seq: 1}, api.Seen{})
	full(t, s, ask(2, 1, 1, 3, mkdir(1, "a")))
	full(t, s, ask(2, 1, 2, 3, mkdir(1, "b")))
	keeps(t, s, ask(2, 1, 3, 3, rmdir(1, "a")), api.OK)
	full(t, s, ask(2, 1, 4, 3, mkdir(1, "a")))
	keeps(t, s, ask(2, 1, 5, 3, rmdir(1, "a")), api.ErrNotFound)
	keeps(t, s, ask(1, 1, 5, 3, mkdir(2, "a")), api.ErrStale)
}

// A Turn that was done stays, also where there is no room for the note behind it.
func TestTurnsThatStay(t *testing.T) {
	tr := loaded(t, 9, 8, dir(2, 1, "a"), dir(3, 1, "b"))
	s, d := halves(t, 5, 0, tr, api.Seen{Life: 1, Seq: 1})
	long := rename(1, "a", 1, "c")
	long.Target = target(60)
	a := ask(1, 1, 2, 3, long)
	full(t, s, a)
	want := []api.Note{base(3, 9, 8), node(dir(2, 1, "a")), node(dir(3, 1, "b")), seenOf(1, 1, 1, api.OK)}
	holds(t, "turned", d, want...)
	// The scroll that the server goes on with is the turned one: there is room for a piece.
	a = ask(1, 1, 3, 3, rename(1, "a", 1, "c"))
	keeps(t, s, a, api.OK)
	holds(t, "one piece", d, append(want, done(a, api.OK))...)

	// The snapshot ahead has just Half pieces: it fits, and nothing else does.
	tr = loaded(t, 9, 8, dir(2, 1, "a"), dir(3, 1, "b"), dir(4, 1, "c"))
	s, d = halves(t, 5, 0, tr, api.Seen{Life: 1, Seq: 1})
	full(t, s, ask(1, 1, 2, 3, rmdir(1, "a")))
	want = []api.Note{base(3, 9, 8), node(dir(2, 1, "a")), node(dir(3, 1, "b")), node(dir(4, 1, "c")), seenOf(1, 1, 1, api.OK)}
	holds(t, "turned", d, want...)
	if j, _, _ := scroll.Open(d); j.Generation() != 2 {
		t.Errorf("generation %d", j.Generation())
	}
}

// A snapshot that was handed in may be too great to be turned to; with room in the journal that does not matter.
func TestTurnsThatAreRefused(t *testing.T) {
	tr := loaded(t, 9, 8, dir(2, 1, "a"), dir(3, 1, "b"), link(4, 1, "l", target(96)))
	unlink := api.Op{Kind: api.OpUnlink, Dir: 1, Name: "l"}
	s, d := halves(t, 5, 0, tr, api.Seen{Life: 1, Seq: 1})
	full(t, s, ask(1, 1, 2, 3, unlink))
	holds(t, "not turned", d, slices.Repeat([]api.Note{boot(3)}, 5)...)
	s, d = halves(t, 5, 1, tr, api.Seen{Life: 1, Seq: 1})
	a := ask(1, 1, 2, 3, unlink)
	keeps(t, s, a, api.OK)
	holds(t, "appended", d, append(slices.Repeat([]api.Note{boot(3)}, 4), done(a, api.OK))...)
}

func TestTheLastGeneration(t *testing.T) {
	d, _ := block.New(11)
	header := make([]byte, api.BlockSize)
	copy(header, "SCR1\x00\x00\x00\x40")
	d.Write(0, header)
	j, _, e := scroll.Open(d)
	if e != api.OK || j.Generation() != 1<<30 {
		t.Fatalf("Open: %d", e)
	}
	s, _ := serve.New(limits(), j, loaded(t, 0, 3, dir(2, 1, "a")), make([]api.Seen, 2), 3)
	var want []api.Note
	for i := range 5 {
		a := ask(1, 1, 1+i, 3, chmod(1, "a", i))
		keeps(t, s, a, api.OK)
		want = append(want, done(a, api.OK))
	}
	full(t, s, ask(1, 1, 6, 3, chmod(1, "a", 6)))
	full(t, s, ask(1, 1, 7, 3, rmdir(1, "b")))
	holds(t, "no more generations", d, want...)
}

func TestTheLastVersion(t *testing.T) {
	at := func(version int) *serve.Server {
		s, _ := servedWith(t, limits(), 99, loaded(t, version, 3, dir(2, 1, "a")), make([]api.Seen, 2))
		return s
	}
	s := at(api.MaxMark - 1)
	replies(t, s, ask(1, 1, 1, 1, chmod(1, "a", 7)), 1, api.MaxMark, api.OK, dir(2, 1, "a"))
	full(t, s, ask(1, 1, 2, 1, chmod(1, "a", 5)))
	full(t, s, ask(2, 1, 2, 1, rename(1, "a", 1, "a")))
	// A refusal needs no version.
	keeps(t, s, ask(1, 1, 3, 1, chmod(1, "b", 5)), api.ErrNotFound)
	replies(t, s, ask(1, 1, 4, 1, list(1)), 1, api.MaxMark, api.OK, dir(2, 1, "a"))
	// A tree that was handed in with too great a version: nothing is kept, what is read is told.
	for _, version := range []int{api.MaxMark + 1, math.MaxInt - 1, math.MaxInt} {
		s = at(version)
		full(t, s, ask(1, 1, 1, 1, chmod(1, "a", 5)))
		full(t, s, ask(1, 1, 2, 1, chmod(1, "b", 5)))
		replies(t, s, ask(1, 1, 3, 1, list(1)), 1, version, api.OK, dir(2, 1, "a"))
	}
}

func TestTheLastID(t *testing.T) {
	at := func(next int) *serve.Server {
		s, _ := servedWith(t, limits(), 99, loaded(t, 1, next, dir(2, 1, "a")), make([]api.Seen, 2))
		return s
	}
	s := at(api.MaxMark - 1)
	replies(t, s, ask(1, 1, 1, 1, mkdir(1, "b")), 1, 2, api.OK, dir(api.MaxMark-1, 1, "b"))
	full(t, s, ask(1, 1, 2, 1, mkdir(1, "c")))
	// What needs no id is done.
	keeps(t, s, ask(1, 1, 3, 1, mkdir(1, "b")), api.ErrExist)
	keeps(t, s, ask(1, 1, 4, 1, rmdir(1, "b")), api.OK)
	full(t, s, ask(1, 1, 5, 1+1i, mkdir(1, "b")))
	if s.Tree().Next() != api.MaxMark {
		t.Errorf("next %d", s.Tree().Next())
	}
	for _, next := range []int{api.MaxMark + 1, math.MaxInt - 1, math.MaxInt} {
		s = at(next)
		full(t, s, ask(1, 1, 1, 1, mkdir(1, "b")))
		full(t, s, ask(1, 1, 2, 1, rmdir(1, "a")))
		full(t, s, ask(1, 1, 3, 1, rmdir(1, "b")))
	}
}

func TestFullIsRemembered(t *testing.T) {
	s, d := halves(t, 4, 4, tree.New(), api.Seen{}, api.Seen{})
	keeps(t, s, ask(1, 1, 1, 3, mkdir(1, "a")), api.OK)
	late := ask(2, 5, 7, 3, mkdir(1, "b"))
	full(t, s, late)
	// There would be room now.
	keeps(t, s, ask(1, 1, 2, 3, rmdir(1, "a")), api.OK)
	before := notes(t, d)
	full(t, s, late)
	// Whatever the op is, and behind reads of that Seq.
	replies(t, s, ask(2, 5, 7, 3, syncing()), 3, 2, api.OK)
	full(t, s, ask(2, 5, 7, 3, rmdir(1, "zz")))
	holds(t, "remembered", d, before...)
	// Another client's mutation of that Seq is another one.
	keeps(t, s, ask(1, 1, 7, 3+1i, rmdir(1, "zz")), api.ErrNotFound)
	// The next Seq is tried, and it is the first again that is kept.
	full(t, s, ask(2, 5, 8, 3, mkdir(1, "b")))
	full(t, s, ask(2, 5, 8, 3, rmdir(1, "zz")))
	says(t, s, late)
	// In the next life it is forgotten: the same Seq is tried once more.
	s, _ = halves(t, 4, 4, loaded(t, 5, 9, dir(2, 1, "a")), api.Seen{}, api.Seen{})
	full(t, s, ask(2, 5, 7, 3, mkdir(1, "b")))
	keeps(t, s, ask(2, 6, 7, 3, rmdir(1, "a")), api.OK)
	full(t, s, ask(2, 6, 8, 3, mkdir(2, strings.Repeat("x", 97))))
	keeps(t, s, ask(2, 7, 8, 3, mkdir(1, "b")), api.OK)
}

// Only what could not be kept is remembered, not each ask that has its number.
func TestFullIsOfMutationsAlone(t *testing.T) {
	s, _ := halves(t, 4, 4, loaded(t, 5, 9, dir(2, 1, "a")), api.Seen{Life: 1, Seq: 4}, api.Seen{})
	replies(t, s, ask(1, 1, 5, 3, look(1, "a")), 3, 5, api.OK, dir(2, 1, "a"))
	keeps(t, s, ask(1, 1, 5, 3, rmdir(1, "b")), api.ErrNotFound)
	full(t, s, ask(1, 1, 6, 3, mkdir(1, "b")))
	keeps(t, s, ask(1, 1, 7, 3, rmdir(1, "b")), api.ErrNotFound)
	replies(t, s, ask(1, 1, 7, 3, mkdir(1, "b")), 3, 5, api.ErrNotFound)
}

func TestOpsThatAreNotPlain(t *testing.T) {
	long := strings.Repeat("x", api.MaxPath+1)
	for i, spoil := range []func(*api.Op){
		func(op *api.Op) { op.Dir = -1 }, func(op *api.Op) { op.Dir = api.MaxMark + 1 }, func(op *api.Op) { op.Dir = math.MinInt },
		func(op *api.Op) { op.To = -1 }, func(op *api.Op) { op.To = api.MaxMark + 1 },
		func(op *api.Op) { op.Mode = -1 }, func(op *api.Op) { op.Mode = api.MaxMark + 1 },
		func(op *api.Op) { op.Name = long }, func(op *api.Op) { op.New = long }, func(op *api.Op) { op.Target = long },
	} {
		for kind := api.OpCreate; kind <= api.OpSetattr; kind++ {
			s, d := servedWith(t, limits(), 99, loaded(t, 2, 4, dir(2, 1, "a"), link(3, 1, "l", "x")), make([]api.Seen, 2))
			op := api.Op{Kind: kind, Dir: 1, Name: "a", To: 1, New: "b", Mode: 7, Target: "x"}
			spoil(&op)
			full(t, s, ask(1, 1, 1, 1, op))
			full(t, s, ask(1, 1, 1, 1, rmdir(1, "a")))
			holds(t, "not plain", d)
			keeps(t, s, ask(1, 1, 2, 1, rmdir(1, "a")), api.OK)
			if t.Failed() {
				t.Fatalf("at %d, %v", i, op)
			}
		}
	}
	// What is plain is kept as it is, also fields that its kind does not name.
	s, d := served(t, limits(), 99)
	op := api.Op{Kind: api.OpMkdir, Dir: 1, Name: "a", To: api.MaxMark, New: long[1:], Mode: 7, Target: long[1:]}
	a := ask(1, 1, 1, 1, op)
	keeps(t, s, a, api.OK)
	holds(t, "plain", d, done(a, api.OK))
}

func TestLivesAndSeqsThatAreNotPlain(t *testing.T) {
	s, d := served(t, limits(), 99)
	a := ask(1, api.MaxMark, api.MaxMark, 1, mkdir(1, "a"))
	keeps(t, s, a, api.OK)
	full(t, s, ask(1, api.MaxMark, api.MaxMark+1, 1, mkdir(1, "b")))
	full(t, s, ask(1, api.MaxMark, math.MaxInt, 1, mkdir(1, "b")))
	full(t, s, ask(1, api.MaxMark+1, 1, 1, mkdir(1, "b")))
	full(t, s, ask(1, math.MaxInt, 1, 1, mkdir(1, "a")))
	holds(t, "not plain", d, done(a, api.OK))
}

// A seen that was handed in, and that no note can tell, has no pieces; no journal can be turned to it.
func TestSeenThatNoNoteTells(t *testing.T) {
	for _, odd := range []api.Seen{{Life: 1, Seq: -1}, {Life: api.MaxMark + 1}, {Life: 1, Seq: math.MaxInt}, {Life: 1, Err: -1}} {
		s, d := halves(t, 4, 1, loaded(t, 5, 9, dir(2, 1, "a")), api.Seen{}, odd)
		keeps(t, s, ask(1, 1, 1, 3, chmod(1, "a", 1)), api.OK)
		before := notes(t, d)
		full(t, s, ask(1, 1, 2, 3, chmod(1, "a", 2)))
		holds(t, "not turned", d, before...)
		if s.Seen(2) != odd {
			t.Errorf("seen: %v", s.Seen(2))
		}
	}
	// Where its life is none, it is in no snapshot.
	s, d := halves(t, 4, 0, loaded(t, 5, 9, dir(2, 1, "a")), api.Seen{}, api.Seen{Life: -1, Seq: -1, Err: -1})
	a := ask(1, 1, 1, 3, chmod(1, "a", 7))
	keeps(t, s, a, api.OK)
	holds(t, "turned", d, base(3, 5, 9), node(dir(2, 1, "a")), done(a, api.OK))
}
