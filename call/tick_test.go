package call_test

import (
	"slices"
	"testing"

	"vista/api"
	"vista/call"
)

// P15.5

// ticks fails if a client's Tick is anything but these messages; it is the same once more.
func ticks(t *testing.T, c *call.Client, want ...api.Msg) {
	t.Helper()
	for range 2 {
		if got := c.Tick(); !slices.EqualFunc(got, want, likeMsg) {
			t.Errorf("Tick: %v, not %v", got, want)
		}
	}
}

func TestTick(t *testing.T) {
	// No epoch is known, and nothing is out; then the first ask is out.
	c := client(t, limits())
	ticks(t, c)
	of(c.Start(lookup("/a"))).sends(t, ask(1, 0, look(1, "a")))
	ticks(t, c, ask(1, 0, look(1, "a")))
	stands(t, c, 0, 0, true, 0)
	// An epoch is known, and the ask is out.
	of(c.Take(reply(1, 1, 0, api.ErrEpoch))).sends(t, ask(1, 1, look(1, "a")))
	ticks(t, c, ask(1, 1, again()), ask(1, 1, look(1, "a")))
	// With the mark as it is now.
	of(c.Take(broken(1+1i, 2, key(1, "z")))).sends(t)
	of(c.Take(broken(1+3i, 2, key(1, "z")))).sends(t)
	ticks(t, c, ask(1, 1+1i, again()), ask(1, 1+1i, look(1, "a")))
	stands(t, c, 1+1i, 2, true, 1)
	of(c.Take(reply(1, 1+1i, 3, api.OK, folder(1, "a", 2)))).ends(t, finds(folder(1, "a", 2).Node, 3))
	// Nothing is out any more. The Seq is 1, whatever was asked.
	ticks(t, c, ask(1, 1+1i, again()))
	of(c.Start(unlink("/a/b"))).sends(t, ask(2, 1+1i, api.Op{Kind: api.OpUnlink, Dir: 2, Name: "b"}))
	ticks(t, c, ask(1, 1+1i, again()), ask(2, 1+1i, api.Op{Kind: api.OpUnlink, Dir: 2, Name: "b"}))
	of(c.Take(flush(4+2i, 3))).sends(t)
	ticks(t, c, ask(1, 4+2i, again()), ask(2, 4+2i, api.Op{Kind: api.OpUnlink, Dir: 2, Name: "b"}))
	c.Cancel()
	ticks(t, c, ask(1, 4+2i, again()))
	of(c.Start(api.Call{Kind: api.CallSync})).sends(t, ask(3, 4+2i, syncs()))
	ticks(t, c, ask(1, 4+2i, again()), ask(3, 4+2i, syncs()))
}

// A mark of epoch 0 is none that a server has come up with: nothing is asked again by it.
func TestTickOfNoEpoch(t *testing.T) {
	c := client(t, limits())
	of(c.Take(broken(1i, 3, key(1, "a")))).sends(t)
	stands(t, c, 1i, 3, false, 0)
	ticks(t, c)
	of(c.Start(lookup("/a"))).sends(t, ask(1, 1i, look(1, "a")))
	ticks(t, c, ask(1, 1i, look(1, "a")))
}

// A tick speaks as the client that it is.
func TestTickOfAnother(t *testing.T) {
	c, _ := call.New(2, 7, limits())
	c.Take(api.Msg{Kind: api.MsgFlush, Client: 2, Life: 7, Mark: 3})
	c.Start(lookup("/a"))
	want := []api.Msg{
		{Kind: api.MsgAsk, Client: 2, Life: 7, Seq: 1, Mark: 3, Op: again()},
		{Kind: api.MsgAsk, Client: 2, Life: 7, Seq: 1, Mark: 3, Op: look(1, "a")},
	}
	ticks(t, c, want...)
}

// cancels fails if Cancel tells something else.
func cancels(t *testing.T, c *call.Client, done bool, want api.Answer) {
	t.Helper()
	if got, answer := c.Cancel(); got != done || !likeAnswer(answer, want) {
		t.Errorf("Cancel: %v, %v; not %v, %v", got, answer, done, want)
	}
}

// Every kind of call is cancelled; its reply is one that nobody waits for, and the next call has the next Seq.
func TestCancel(t *testing.T) {
	for kind := api.CallLookup; kind <= api.CallSync; kind++ {
		c := rich(t, limits())
		cancels(t, c, false, api.Answer{})
		out, done, _ := c.Start(api.Call{Kind: kind, Path: "/x/y", Other: "/z"})
		if done || len(out) != 1 || out[0].Seq != 5 {
			t.Fatalf("%v, %v", out, done)
		}
		of(c.Take(broken(1+1i, 7, key(1, "n")))).sends(t)
		of(c.Take(reply(5, 1+2i, 8, api.OK, folder(1, "x", 9)))).sends(t)
		stands(t, c, 1+1i, 7, true, 1)
		cancels(t, c, true, fails(api.ErrCancelled, 7))
		stands(t, c, 1+1i, 7, false, 0)
		cancels(t, c, false, api.Answer{})
		ticks(t, c, ask(1, 1+1i, again()))
		of(c.Take(reply(5, 1+1i, 8, api.OK, folder(1, "x", 9)))).sends(t)
		of(c.Take(reply(5, 1+1i, 8, api.ErrEpoch))).sends(t)
		stands(t, c, 1+1i, 7, false, 0)
		// What was cached is so still.
		holds(t, c, file(1, "f", 3), file(2, "a", 4), file(2, "b", 5), folder(1, "d", 2))
		wholes(t, c, 2)
		of(c.Start(readdir("/d"))).ends(t, tells(7, "a", "b"))
		of(c.Start(stat("/x"))).sends(t, ask(6, 1+1i, look(1, "x")))
	}
}

// Cancelled behind a part of what it wanted: that part is known.
func TestCancelHalfway(t *testing.T) {
	c := knows(t, limits())
	of(c.Start(lookup("/a/b"))).sends(t, ask(1, 1, look(1, "a")))
	of(c.Take(reply(1, 1, 6, api.OK, folder(1, "a", 2)))).sends(t, ask(2, 1, look(2, "b")))
	cancels(t, c, true, fails(api.ErrCancelled, 6))
	holds(t, c, folder(1, "a", 2))
	of(c.Start(lookup("/a"))).ends(t, finds(folder(1, "a", 2).Node, 6))
	of(c.Start(lookup("/a/b"))).sends(t, ask(3, 1, look(2, "b")))
	// The reply to what was asked ahead is not the one to this.
	of(c.Take(reply(2, 1, 6, api.OK, file(2, "b", 3)))).sends(t)
	of(c.Take(reply(3, 1, 6, api.OK, file(2, "b", 4)))).ends(t, finds(file(2, "b", 4).Node, 6))
}

// A client that has cancelled before any epoch is known asks for nothing at a tick.
func TestCancelOfTheFirst(t *testing.T) {
	c := client(t, limits())
	of(c.Start(lookup("/a"))).sends(t, ask(1, 0, look(1, "a")))
	cancels(t, c, true, fails(api.ErrCancelled, 0))
	ticks(t, c)
	of(c.Take(reply(1, 1, 3, api.ErrEpoch))).sends(t)
	stands(t, c, 1, 0, false, 0)
	of(c.Start(lookup("/a"))).sends(t, ask(2, 1, look(1, "a")))
}
