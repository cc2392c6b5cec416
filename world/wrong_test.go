package world_test

import (
	"fmt"
	"slices"
	"testing"

	"vista/api"
	"vista/world"
)

// What no script of events comes to: letters and messages that are none, the greatest life, a disk without a journal.

// arrives delivers a letter, and fails if anything comes of it but that it is gone.
func arrives(t *testing.T, w *world.World, l api.Letter) {
	t.Helper()
	was, disk := tells(w, 2), w.Disk()
	want := api.Step{Up: was.Up, Server: was.Version}
	if l.To > 0 {
		want.Client, want.Life, want.Version = l.To, was.Clients[l.To].Life, was.Clients[l.To].Seen
	}
	w.Lay(l)
	is(t, fmt.Sprintf("%v", l), w.Do(deliver(-1)), want)
	alike(t, fmt.Sprintf("%v", l), tells(w, 2), was)
	likeDisk(t, fmt.Sprintf("%v", l), w.Disk(), disk)
}

func TestLettersThatAreNone(t *testing.T) {
	w := knows(t, limits(2), 99)
	does(t, w, 2, mkdir("/a"))
	w.Run(calls(1, lookup("/b")), calls(2, create("/c", 3)))
	good := ask(t, 9, 1, api.Op{Kind: api.OpMkdir, Dir: 1, Name: "x"}).Bytes
	flush := letter(t, 1, api.Msg{Kind: api.MsgFlush, Client: 1, Life: 1, Mark: 1 + 1i, Version: 7}).Bytes
	for range 2 {
		for to := range 3 {
			for _, b := range [][]byte{nil, {0}, {1}, {4}, {255, 255, 255}, make([]byte, 99), good[:len(good)-1], append(slices.Clone(good), 0), flush[:len(flush)-1], append(slices.Clone(flush), 0)} {
				arrives(t, w, api.Letter{To: to, Bytes: b})
			}
		}
		// What is a message, but none for whom it has come to.
		arrives(t, w, api.Letter{To: 0, Bytes: flush})
		arrives(t, w, api.Letter{To: 1, Bytes: good})
		arrives(t, w, api.Letter{To: 2, Bytes: flush})
		w.Do(of(api.EvCut, 0))
	}
}

// What has no bytes is lost; what is sent beside it is not.
func TestMessagesWithoutBytes(t *testing.T) {
	w := knows(t, limits(2), 99)
	good := api.Msg{Kind: api.MsgAsk, Client: 2, Life: 3, Seq: 4, Mark: 5 + 6i, Op: api.Op{Kind: api.OpSync}}
	flush := api.Msg{Kind: api.MsgFlush, Client: 1, Life: 2, Mark: 3 + 4i, Version: 5}
	key := []api.Key{{Dir: 1, Name: "a"}}
	bad := []api.Msg{
		{},
		{Kind: 5, Client: 1},
		{Kind: api.MsgAsk, Client: 1, Op: api.Op{Kind: 12}},
		{Kind: api.MsgAsk, Client: 1, Seq: -1, Op: api.Op{Kind: api.OpSync}},
		{Kind: api.MsgReply, Client: 1, Version: api.MaxMark + 1},
		{Kind: api.MsgReply, Client: 1, Entries: make([]api.Entry, api.MaxNodes+1)},
		{Kind: api.MsgBreak, Client: 1},
		{Kind: api.MsgFlush, Client: 1, Keys: key},
		{Kind: api.MsgFlush, Client: 1, Mark: 0.5},
	}
	for _, m := range bad {
		w.Post(m)
		flies(t, fmt.Sprintf("%+v", m), w)
	}
	w.Post(slices.Concat([]api.Msg{good}, bad, []api.Msg{flush}, bad)...)
	flies(t, "good ones between", w, letter(t, 0, good), letter(t, 1, flush))
	w.Post(api.Msg{Kind: api.MsgBreak, Client: 2, Keys: key}, api.Msg{Kind: api.MsgReply, Client: 1})
	for i, to := range []int{0, 1, 2, 1} {
		if l := w.Letters()[i]; l.To != to {
			t.Errorf("letter %d is to %d, not %d", i, l.To, to)
		}
	}
}

// Behind the greatest life a client stays as it is, and goes on.
func TestGreatestLife(t *testing.T) {
	w := knows(t, limits(2), 99)
	w.SetLife(1, api.MaxMark-1)
	is(t, "crash", w.Do(at(1, api.EvCrash)), acted(1, api.MaxMark, 0, 0, 0))
	if answer := does(t, w, 1, mkdir("/a")); !likeAnswer(answer, api.Answer{Version: 1}) {
		t.Errorf("mkdir: %+v", answer)
	}
	w.Do(calls(1, lookup("/b")))
	was := tells(w, 2)
	for range 3 {
		is(t, "crash", w.Do(at(1, api.EvCrash)), acted(1, api.MaxMark, 1, 0, 1))
		alike(t, "crash", tells(w, 2), was)
	}
	w.Do(deliver(0))
	is(t, "the reply", w.Do(deliver(0)), done(acted(1, api.MaxMark, 1, 0, 1), api.Answer{Err: api.ErrNotFound, Version: 1}))
	is(t, "crash of the other one", w.Do(at(2, api.EvCrash)), acted(2, 2, 0, 0, 1))
}

// Not only for want of power may a start be refused: the server stays down, and the disk is cut.
func TestStartIsRefused(t *testing.T) {
	w := knows(t, limits(1), 9)
	w.Do(of(api.EvCut, 0))
	w.Raw().Power()
	if e := w.Raw().Write(0, make([]byte, api.BlockSize)); e != api.OK {
		t.Fatalf("Write: %d", e)
	}
	w.Raw().Cut()
	was, disk := tells(w, 1), w.Disk()
	for _, n := range []int{-1, 0, 5} {
		is(t, "boot", w.Do(of(api.EvBoot, n)), api.Step{})
		alike(t, "boot", tells(w, 1), was)
		likeDisk(t, "boot", w.Disk(), disk)
	}
}
