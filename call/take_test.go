package call_test

import (
	"math"
	"testing"

	"vista/api"
	"vista/call"
)

// P15.4

// rich is a client of mark 1, version 5 that knows the directory 2, whole, and some names of the root.
func rich(t *testing.T, conf api.Conf) *call.Client {
	t.Helper()
	c := knows(t, conf, folder(1, "d", 2), none(1, "n"), file(1, "f", 3))
	of(c.Start(readdir("/d"))).sends(t, ask(4, 1, list(2)))
	of(c.Take(reply(4, 1, 5, api.OK, file(2, "a", 4), file(2, "b", 5)))).ends(t, tells(5, "a", "b"))
	wholes(t, c, 2)
	holds(t, c, none(1, "n"), file(1, "f", 3), file(2, "a", 4), file(2, "b", 5), folder(1, "d", 2))
	return c
}

// A flush, and a message of a new epoch, clear all that is cached; with and without a call that goes on.
func TestAll(t *testing.T) {
	for _, m := range []api.Msg{flush(1+1i, 6), flush(1+9i, 6), flush(2, 6), flush(3+4i, 6), broken(2+1i, 6), broken(2+1i, 6, key(7, "x"))} {
		for _, busy := range []bool{false, true} {
			c := rich(t, limits())
			if busy {
				of(c.Start(lookup("/d/../x"))).sends(t, ask(5, 1, look(1, "x")))
			}
			of(c.Take(m)).sends(t)
			holds(t, c)
			wholes(t, c)
			// A flush that changes no number says no version either.
			version := 6
			if m.Mark == 2 {
				version = 5
			}
			stands(t, c, m.Mark, version, busy, 0)
			if busy {
				// The call goes on, and is driven anew from the beginning.
				of(c.Take(reply(5, m.Mark, 7, api.OK, none(1, "x")))).sends(t, ask(6, m.Mark, look(1, "d")))
			}
		}
	}
	// A message of a new epoch that is held: all is cleared at once.
	c := rich(t, limits())
	of(c.Take(broken(2+2i, 6, key(7, "x")))).sends(t)
	holds(t, c)
	stands(t, c, 2, 5, false, 1)
}

// Keys are cut: just these, or all of a directory, which is whole no more.
func TestKeys(t *testing.T) {
	n, f, a, b, d := none(1, "n"), file(1, "f", 3), file(2, "a", 4), file(2, "b", 5), folder(1, "d", 2)
	for _, row := range []struct {
		keys  []api.Key
		left  []api.Entry
		whole []int
	}{
		{nil, []api.Entry{n, f, a, b, d}, []int{2}},
		{[]api.Key{key(1, "n")}, []api.Entry{f, a, b, d}, []int{2}},
		{[]api.Key{key(1, "f"), key(1, "x"), key(7, "a")}, []api.Entry{n, a, b, d}, []int{2}},
		{[]api.Key{key(2, "a")}, []api.Entry{n, f, b, d}, nil},
		{[]api.Key{key(2, "x")}, []api.Entry{n, f, a, b, d}, nil},
		{[]api.Key{key(2, "")}, []api.Entry{n, f, d}, nil},
		{[]api.Key{key(1, "")}, []api.Entry{a, b}, []int{2}},
		{[]api.Key{key(1, ""), key(2, "b")}, []api.Entry{a}, nil},
		{[]api.Key{key(1, ""), key(2, "")}, nil, nil},
	} {
		for _, busy := range []bool{false, true} {
			c := rich(t, limits())
			if busy {
				of(c.Start(lookup("/y"))).sends(t, ask(5, 1, look(1, "y")))
			}
			of(c.Take(broken(1+1i, 6, row.keys...))).sends(t)
			holds(t, c, row.left...)
			wholes(t, c, row.whole...)
			stands(t, c, 1+1i, 6, busy, 0)
		}
	}
}

// Breaks that come too early are held, and done in their order when their time has come.
func TestActsInTheirOrder(t *testing.T) {
	c := rich(t, limits())
	of(c.Start(stat("/d/c"))).ends(t, fails(api.ErrNotFound, 5))
	of(c.Start(stat("/y"))).sends(t, ask(5, 1, look(1, "y")))
	of(c.Take(broken(1+2i, 8, key(2, "a")))).sends(t)
	of(c.Take(reply(5, 1+2i, 8, api.OK, file(1, "y", 9)))).sends(t)
	stands(t, c, 1, 5, true, 2)
	of(c.Take(broken(1+1i, 7, key(1, "n")))).ends(t, finds(file(1, "y", 9).Node, 8))
	stands(t, c, 1+2i, 8, false, 0)
	holds(t, c, file(1, "f", 3), file(2, "b", 5), folder(1, "d", 2), file(1, "y", 9))
	wholes(t, c)
}

// Again: the ask that is out is sent once more, with the mark as it is now, as often as it is told.
func TestAgain(t *testing.T) {
	c := client(t, limits())
	of(c.Start(rename("/a", "/b"))).sends(t, ask(1, 0, api.Op{Kind: api.OpRename, Dir: 1, Name: "a", To: 1, New: "b"}))
	op := api.Op{Kind: api.OpRename, Dir: 1, Name: "a", To: 1, New: "b"}
	of(c.Take(reply(1, 1, 0, api.ErrEpoch))).sends(t, ask(1, 1, op))
	of(c.Take(reply(1, 1, 3, api.ErrEpoch, file(1, "x", 2)))).sends(t, ask(1, 1, op))
	stands(t, c, 1, 3, true, 0)
	of(c.Take(broken(1+1i, 4, key(1, "q")))).sends(t)
	of(c.Take(reply(1, 1, 4, api.ErrEpoch))).sends(t, ask(1, 1+1i, op))
	of(c.Take(reply(1, 3, 4, api.ErrEpoch))).sends(t, ask(1, 3, op))
	of(c.Take(reply(1, 3+2i, 9, api.ErrEpoch))).sends(t)
	stands(t, c, 3, 4, true, 1)
	of(c.Take(flush(3+2i, 6))).sends(t, ask(1, 3+2i, op))
	stands(t, c, 3+2i, 9, true, 0)
	holds(t, c)
	of(c.Take(reply(1, 3+2i, 9, api.OK))).ends(t, fails(api.OK, 9))
	// Nothing is out: nothing is sent.
	of(c.Take(reply(1, 3+2i, 9, api.ErrEpoch))).sends(t)
	of(c.Take(reply(1, 5, 9, api.ErrEpoch))).sends(t)
	stands(t, c, 5, 9, false, 0)
}

// Two replies are held, the first of them with ErrEpoch: what it makes the client send stands ahead of what the second one does, and goes out beside an answer, too.
func TestAgainAheadOfAReply(t *testing.T) {
	c := knows(t, limits())
	of(c.Start(stat("/a/b"))).sends(t, ask(1, 1, look(1, "a")))
	of(c.Take(reply(1, 1+1i, 6, api.ErrEpoch))).sends(t)
	of(c.Take(reply(1, 1+2i, 7, api.OK, folder(1, "a", 2)))).sends(t)
	of(c.Take(flush(1+3i, 8))).sends(t, ask(1, 1+3i, look(1, "a")), ask(2, 1+3i, look(1, "a")))
	stands(t, c, 1+3i, 8, true, 0)
	c.Cancel()

	of(c.Start(api.Call{Kind: api.CallSync})).sends(t, ask(3, 1+3i, syncs()))
	of(c.Take(reply(3, 1+4i, 6, api.ErrEpoch))).sends(t)
	of(c.Take(reply(3, 1+5i, 7, api.OK))).sends(t)
	got := of(c.Take(flush(1+5i, 9)))
	if want := (outcome{[]api.Msg{ask(3, 1+5i, syncs())}, true, fails(api.OK, 9)}); !got.like(want) {
		t.Errorf("%+v, not %+v", got, want)
	}
	stands(t, c, 1+5i, 9, false, 0)
}

// A look that is answered with an error tells nothing, and the call is driven once more: what is wanted is asked with a new Seq.
func TestLookWithAnError(t *testing.T) {
	for _, e := range []api.Errno{api.ErrArg, api.ErrFull, api.ErrBusy, api.ErrStale, api.ErrNotDir, api.ErrNotFound, 99, -1} {
		for kind := api.CallLookup; kind <= api.CallSetattr; kind++ {
			c := rich(t, limits())
			of(c.Start(api.Call{Kind: kind, Path: "/x/y", Other: "/z"})).sends(t, ask(5, 1, look(1, "x")))
			of(c.Take(reply(5, 1, 7, e, folder(1, "x", 9), file(9, "y", 10)))).sends(t, ask(6, 1, look(1, "x")))
			of(c.Take(reply(6, 1, 7, e))).sends(t, ask(7, 1, look(1, "x")))
			stands(t, c, 1, 7, true, 0)
			holds(t, c, none(1, "n"), file(1, "f", 3), file(2, "a", 4), file(2, "b", 5), folder(1, "d", 2))
			wholes(t, c, 2)
		}
	}
}

// So does a list; no directory is whole by it.
func TestListWithAnError(t *testing.T) {
	for _, e := range []api.Errno{api.ErrBusy, api.ErrStale, api.ErrNotDir, 99, -1} {
		c := rich(t, limits())
		of(c.Start(readdir("/"))).sends(t, ask(5, 1, list(1)))
		of(c.Take(reply(5, 1, 7, e, file(1, "z", 9)))).sends(t, ask(6, 1, list(1)))
		stands(t, c, 1, 7, true, 0)
		holds(t, c, none(1, "n"), file(1, "f", 3), file(2, "a", 4), file(2, "b", 5), folder(1, "d", 2))
		wholes(t, c, 2)
		// What is no directory any more is told when it is known.
		of(c.Take(broken(1+1i, 8, key(1, "")))).sends(t)
		of(c.Take(reply(6, 1+1i, 8, api.OK))).ends(t, tells(8))
		of(c.Start(readdir("/d"))).ends(t, fails(api.ErrNotFound, 8))
	}
}

// A mutation is answered with its error, whatever it is; with one nothing is learned.
func TestMutationReplies(t *testing.T) {
	for _, kind := range mutations() {
		for _, e := range []api.Errno{api.OK, api.ErrArg, api.ErrFull, api.ErrNotFound, api.ErrExist, api.ErrNotDir, api.ErrBusy, api.ErrStale, 99, -1} {
			c := rich(t, limits())
			out, done, _ := c.Start(api.Call{Kind: kind, Path: "/d/x", Other: "/z"})
			if done || len(out) != 1 || out[0].Seq != 5 || out[0].Op.Dir != 2 {
				t.Fatalf("%v", out)
			}
			of(c.Take(reply(5, 1, 6, e, file(2, "x", 7), none(1, "f")))).ends(t, fails(e, 6))
			stands(t, c, 1, 6, false, 0)
			// A whole reply to a mutation says of no directory that it is whole, nor that it is not.
			wholes(t, c, 2)
			if e == api.OK {
				holds(t, c, none(1, "n"), file(2, "a", 4), file(2, "b", 5), folder(1, "d", 2), file(2, "x", 7), none(1, "f"))
			} else {
				holds(t, c, none(1, "n"), file(1, "f", 3), file(2, "a", 4), file(2, "b", 5), folder(1, "d", 2))
			}
		}
	}
}

// Of a reply the entries count that no later break names.
func TestEntriesThatABreakNames(t *testing.T) {
	c := knows(t, limits(), folder(1, "d", 2))
	of(c.Start(create("/d/x", 1))).sends(t, ask(2, 1, api.Op{Kind: api.OpCreate, Dir: 2, Name: "x", Mode: 1}))
	of(c.Take(broken(1+1i, 9, key(2, "x"), key(4, "")))).sends(t)
	of(c.Take(reply(2, 1, 6, api.OK, file(2, "x", 7), none(2, "y"), file(4, "z", 8)))).ends(t, fails(api.OK, 9))
	holds(t, c, folder(1, "d", 2), none(2, "y"))
	// A look whose entry is broken by then is asked again.
	of(c.Start(stat("/d/x"))).sends(t, ask(3, 1+1i, look(2, "x")))
	of(c.Take(broken(1+2i, 10, key(2, "x")))).sends(t)
	of(c.Take(reply(3, 1+1i, 9, api.OK, file(2, "x", 7)))).sends(t, ask(4, 1+2i, look(2, "x")))
	of(c.Take(reply(4, 1+2i, 10, api.OK, none(2, "x")))).ends(t, fails(api.ErrNotFound, 10))
}

// Entries are put one by one, in their order, the last of a key counting; the first of a key is the one that the walk is told of just now.
func TestPutsInTheirOrder(t *testing.T) {
	c := knows(t, limits(), file(1, "a", 2))
	of(c.Start(stat("/x"))).sends(t, ask(2, 1, look(1, "x")))
	of(c.Take(reply(2, 1, 5, api.OK, file(1, "x", 3), none(1, "b"), file(1, "", 9), file(1, "x", 4), file(1, "a", 5)))).ends(t, finds(file(1, "x", 3).Node, 5))
	holds(t, c, none(1, "b"), file(1, "a", 5), file(1, "x", 4))
	of(c.Start(stat("/x"))).ends(t, finds(file(1, "x", 4).Node, 5))
}

// An entry that must go at once by the limits is told all the same, and asked for again the next time.
func TestEntriesThatGoAtOnce(t *testing.T) {
	conf := limits()
	conf.Dentries, conf.Negative = 1, 1
	c := knows(t, conf)
	of(c.Start(stat("/a/b"))).sends(t, ask(1, 1, look(1, "a")))
	of(c.Take(reply(1, 1, 5, api.OK, folder(1, "a", 2)))).sends(t, ask(2, 1, look(2, "b")))
	// {1 a} stays, since {2 b} is below it: that goes, and is told.
	of(c.Take(reply(2, 1, 6, api.OK, file(2, "b", 3)))).ends(t, finds(file(2, "b", 3).Node, 6))
	holds(t, c, folder(1, "a", 2))
	of(c.Start(stat("/a/b"))).sends(t, ask(3, 1, look(2, "b")))
	of(c.Take(reply(3, 1, 6, api.OK, none(2, "b")))).ends(t, fails(api.ErrNotFound, 6))
	holds(t, c, folder(1, "a", 2))
	of(c.Start(stat("/b"))).sends(t, ask(4, 1, look(1, "b")))
	of(c.Take(reply(4, 1, 6, api.OK, none(1, "b")))).ends(t, fails(api.ErrNotFound, 6))
	holds(t, c, none(1, "b"))
	// Of names that are none the one longest unused goes first, though there were room for it.
	conf.Dentries = 9
	c = knows(t, conf, file(1, "f", 2), none(1, "a"))
	of(c.Start(stat("/b"))).sends(t, ask(3, 1, look(1, "b")))
	of(c.Take(reply(3, 1, 6, api.OK, none(1, "b")))).ends(t, fails(api.ErrNotFound, 6))
	holds(t, c, file(1, "f", 2), none(1, "b"))
	of(c.Start(stat("/a"))).sends(t, ask(4, 1, look(1, "a")))
}

// The cache is trimmed ahead of the walk: what it uses then is used in what is left.
func TestTrimmedAheadOfTheWalk(t *testing.T) {
	conf := limits()
	conf.Dentries = 2
	c := knows(t, conf, file(1, "a", 2), folder(1, "d", 3))
	of(c.Start(stat("/a"))).ends(t, finds(file(1, "a", 2).Node, 5))
	of(c.Start(stat("/d/x/y"))).sends(t, ask(3, 1, look(3, "x")))
	holds(t, c, file(1, "a", 2), folder(1, "d", 3))
	of(c.Take(reply(3, 1, 6, api.OK, folder(3, "x", 4)))).sends(t, ask(4, 1, look(4, "y")))
	holds(t, c, folder(1, "d", 3), folder(3, "x", 4))
	of(c.Take(reply(4, 1, 6, api.OK, file(4, "y", 5)))).ends(t, finds(file(4, "y", 5).Node, 6))
	holds(t, c, folder(1, "d", 3), folder(3, "x", 4))
}

// Of rings, which no tree has, there is no leaf: they stay, and the client goes on. Each reply but that to a CallSync trims, with an error too: what became a leaf in between goes.
func TestRings(t *testing.T) {
	conf := limits()
	conf.Dentries = 1
	a, b, d := folder(1, "a", 2), folder(2, "b", 3), folder(3, "d", 1)
	for _, row := range []struct {
		call  api.Call
		left  []api.Entry
		again bool
	}{
		{unlink("/x"), []api.Entry{b}, false},
		{stat("/x"), []api.Entry{b}, true},
		{readdir("/"), []api.Entry{b}, true},
		{api.Call{Kind: api.CallSync}, []api.Entry{b, d}, false},
	} {
		c := knows(t, conf)
		of(c.Start(stat("/a/b/d/c"))).sends(t, ask(1, 1, look(1, "a")))
		of(c.Take(reply(1, 1, 5, api.OK, a, b, d))).sends(t, ask(2, 1, look(1, "c")))
		holds(t, c, a, b, d)
		of(c.Take(reply(2, 1, 5, api.OK, file(1, "c", 9)))).ends(t, finds(file(1, "c", 9).Node, 5))
		holds(t, c, a, b, d)
		of(c.Take(broken(1+1i, 6, key(1, "a")))).sends(t)
		holds(t, c, b, d)
		if _, done, _ := c.Start(row.call); done {
			t.Fatalf("%+v is done", row.call)
		}
		holds(t, c, b, d)
		if _, done, answer := c.Take(reply(3, 1+1i, 6, api.ErrBusy)); done == row.again || done && answer.Err != api.ErrBusy {
			t.Errorf("%+v: %v", row.call, answer)
		}
		holds(t, c, row.left...)
	}
}

// Messages of another client or life, of an epoch that has passed, of a mark that is not good, of a kind that is none for a client: nothing changes.
func TestMessagesThatAreNone(t *testing.T) {
	for _, busy := range []bool{false, true} {
		c := rich(t, limits())
		of(c.Take(flush(2, 0))).sends(t)
		teach(t, c, 2, 9, folder(1, "d", 2))
		if busy {
			of(c.Start(lookup("/d/x"))).sends(t, ask(6, 2, look(2, "x")))
		}
		for _, m := range []api.Msg{reply(6, 2, 20, api.OK, file(2, "x", 3)), broken(2+1i, 20, key(1, "")), flush(2+3i, 20), reply(6, 3, 20, api.ErrEpoch)} {
			for _, turn := range []func(m *api.Msg){
				func(m *api.Msg) { m.Client = 2 },
				func(m *api.Msg) { m.Client = 0 },
				func(m *api.Msg) { m.Life = 2 },
				func(m *api.Msg) { m.Life = 0 },
				func(m *api.Msg) { m.Mark = 1 },
				func(m *api.Msg) { m.Mark = 1 + 9i },
				func(m *api.Msg) { m.Mark = 0 },
				func(m *api.Msg) { m.Mark += 0.5i },
				func(m *api.Msg) { m.Mark = -m.Mark },
				func(m *api.Msg) { m.Mark = complex(math.Inf(1), 0) },
				func(m *api.Msg) { m.Mark = complex(math.NaN(), 1) },
				func(m *api.Msg) { m.Mark += api.MaxMark },
				func(m *api.Msg) { m.Kind = api.MsgAsk },
				func(m *api.Msg) { m.Kind = 0 },
				func(m *api.Msg) { m.Kind = 5 },
				func(m *api.Msg) { m.Kind = -m.Kind },
			} {
				other := m
				turn(&other)
				of(c.Take(other)).sends(t)
				stands(t, c, 2, 9, busy, 0)
				holds(t, c, folder(1, "d", 2))
				if t.Failed() {
					t.Fatalf("at %+v", other)
				}
			}
		}
		// A mark's number of another epoch than the one that is out counts; replies of another Seq don't.
		for _, seq := range []int{-6, 0, 1, 5, 7, math.MaxInt} {
			of(c.Take(reply(seq, 2, 20, api.OK, file(2, "x", 3)))).sends(t)
		}
		stands(t, c, 2, 9, busy, 0)
	}
}

// Doubled and late messages: a break is done once, a reply is used once.
func TestDoubledAndLate(t *testing.T) {
	c := knows(t, limits(), folder(1, "d", 2))
	of(c.Start(stat("/d/x"))).sends(t, ask(2, 1, look(2, "x")))
	answer := reply(2, 1, 6, api.OK, file(2, "x", 3))
	of(c.Take(answer)).ends(t, finds(file(2, "x", 3).Node, 6))
	of(c.Take(answer)).sends(t)
	holds(t, c, folder(1, "d", 2), file(2, "x", 3))
	cut := broken(1+1i, 7, key(2, "x"))
	of(c.Take(cut)).sends(t)
	of(c.Take(answer)).sends(t)
	of(c.Start(stat("/d/x"))).sends(t, ask(3, 1+1i, look(2, "x")))
	of(c.Take(answer)).sends(t)
	of(c.Take(reply(3, 1+1i, 7, api.OK, file(2, "x", 4)))).ends(t, finds(file(2, "x", 4).Node, 7))
	of(c.Take(cut)).sends(t)
	of(c.Take(flush(1+1i, 9))).sends(t)
	of(c.Take(flush(1, 9))).sends(t)
	holds(t, c, folder(1, "d", 2), file(2, "x", 4))
	stands(t, c, 1+1i, 7, false, 0)
	// A reply that comes ahead of its break is held; one that is cancelled in between is let go.
	of(c.Start(stat("/d/y"))).sends(t, ask(4, 1+1i, look(2, "y")))
	of(c.Take(reply(4, 1+2i, 8, api.OK, none(2, "y")))).sends(t)
	stands(t, c, 1+1i, 7, true, 1)
	of(c.Take(reply(4, 1+2i, 8, api.OK, none(2, "y")))).sends(t)
	stands(t, c, 1+1i, 7, true, 1)
	c.Cancel()
	stands(t, c, 1+1i, 7, false, 0)
	of(c.Take(broken(1+2i, 8, key(9, "q")))).sends(t)
	holds(t, c, file(2, "x", 4), folder(1, "d", 2))
}

// Where the client has no room for what comes too early, it is lost; when it comes again, all goes on.
func TestHeldUpToTheLimit(t *testing.T) {
	for hold := range 4 {
		conf := limits()
		conf.Hold = hold
		c := knows(t, conf, file(1, "a", 2), file(1, "b", 3), file(1, "c", 4), file(1, "d", 5))
		breaks := []api.Msg{broken(1+1i, 6, key(1, "a")), broken(1+2i, 7, key(1, "b")), broken(1+3i, 8, key(1, "c")), broken(1+4i, 9, key(1, "d"))}
		for _, m := range breaks[1:] {
			of(c.Take(m)).sends(t)
		}
		stands(t, c, 1, 5, false, hold)
		of(c.Take(breaks[0])).sends(t)
		stands(t, c, complex(1, float64(1+hold)), 6+hold, false, 0)
		if got := len(c.Entries()); got != 3-hold {
			t.Errorf("hold %d: %d entries", hold, got)
		}
		for _, m := range breaks {
			of(c.Take(m)).sends(t)
		}
		stands(t, c, 1+4i, 9, false, 0)
		holds(t, c)
	}
}
