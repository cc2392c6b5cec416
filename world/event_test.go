package world_test

import (
	"fmt"
	"math"
	"reflect"
	"slices"
	"testing"

	"vista/api"
	"vista/wire"
	"vista/world"
)

// P16.2

// acted is the step of a client, behind which the server is up.
func acted(client, life, version, sent, server int) api.Step {
	return api.Step{Client: client, Life: life, Version: version, Sent: sent, Up: true, Server: server}
}

// done is a step in which a call has completed.
func done(s api.Step, answer api.Answer) api.Step {
	s.Done, s.Answer = true, answer
	return s
}

// knows is a world whose clients know the epoch, with nothing in flight.
func knows(t *testing.T, conf api.Conf, blocks int) *world.World {
	t.Helper()
	w := made(t, conf, blocks)
	for c := range conf.Clients {
		does(t, w, c+1, sync)
	}
	return w
}

// letter is one that a message makes.
func letter(t *testing.T, to int, m api.Msg) api.Letter {
	t.Helper()
	b, e := wire.Encode(m)
	if e != api.OK {
		t.Fatalf("%+v is not plain", m)
	}
	return api.Letter{To: to, Bytes: b}
}

// ask is one of client 1, of its first life.
func ask(t *testing.T, seq int, mark complex128, op api.Op) api.Letter {
	t.Helper()
	return letter(t, 0, api.Msg{Kind: api.MsgAsk, Client: 1, Life: 1, Seq: seq, Mark: mark, Op: op})
}

// flies fails if other letters are in flight than these.
func flies(t *testing.T, what string, w *world.World, want ...api.Letter) {
	t.Helper()
	if got := w.Letters(); !reflect.DeepEqual(some(got), some(want)) {
		t.Errorf("%s: in flight are %v, not %v", what, got, want)
	}
}

// noKinds are numbers of no event.
var noKinds = []int{0, -1, 11, 12, -10, math.MinInt, math.MaxInt}

func TestEventsThatAreNone(t *testing.T) {
	w := knows(t, limits(2), 99)
	w.Run(calls(1, lookup("/a")), calls(2, mkdir("/a")))
	for range 2 {
		for _, kind := range noKinds {
			for _, client := range []int{0, 1, 2, 3} {
				for _, n := range []int{-1, 0, 1} {
					unchanged(t, w, api.Event{Kind: kind, Client: client, N: n, Call: lookup("/b")})
				}
			}
		}
		w.Do(of(api.EvCut, 0))
	}
}

func TestClientsThatAreNone(t *testing.T) {
	for clients := 1; clients <= api.MaxClients; clients++ {
		w := knows(t, limits(clients), 99)
		w.Do(calls(1, lookup("/a")))
		for range 2 {
			for _, client := range []int{0, -1, clients + 1, 5, math.MinInt, math.MaxInt} {
				for _, kind := range []int{api.EvCall, api.EvTick, api.EvCrash, api.EvCancel} {
					unchanged(t, w, api.Event{Kind: kind, Client: client, Call: lookup("/a")})
				}
			}
			w.Do(of(api.EvCut, 0))
		}
	}
}

// An event that is at no client does not ask for one.
func TestNoClientIsAsked(t *testing.T) {
	for _, client := range []int{-7, 1, 2, 99} {
		w := knows(t, limits(1), 99)
		w.Do(calls(1, create("/a", 3)))
		event := func(kind, n int) api.Event { return api.Event{Kind: kind, Client: client, N: n, Call: unlink("/a")} }
		is(t, "double", w.Do(event(api.EvDouble, 0)), server(0))
		is(t, "drop", w.Do(event(api.EvDrop, 0)), server(0))
		is(t, "deliver", w.Do(event(api.EvDeliver, 0)), server(1))
		is(t, "deliver", w.Do(event(api.EvDeliver, 0)), done(acted(1, 1, 1, 0, 1), api.Answer{Version: 1}))
		is(t, "fuse", w.Do(event(api.EvFuse, 1)), server(1))
		is(t, "cut", w.Do(event(api.EvCut, 0)), api.Step{})
		is(t, "boot", w.Do(event(api.EvBoot, 0)), api.Step{})
		is(t, "boot", w.Do(event(api.EvBoot, 1)), server(1))
	}
}

func TestCall(t *testing.T) {
	w := made(t, limits(2), 99)
	is(t, "sync", w.Do(calls(2, sync)), acted(2, 1, 0, 1, 0))
	flies(t, "sync", w, letter(t, 0, api.Msg{Kind: api.MsgAsk, Client: 2, Life: 1, Seq: 1, Op: api.Op{Kind: api.OpSync}}))
	is(t, "busy", w.Do(calls(2, lookup("/"))), done(acted(2, 1, 0, 0, 0), api.Answer{Err: api.ErrBusy}))
	is(t, "no kind", w.Do(calls(1, api.Call{Kind: 13})), done(acted(1, 1, 0, 0, 0), api.Answer{Err: api.ErrArg}))
	is(t, "no path", w.Do(calls(1, lookup(""))), done(acted(1, 1, 0, 0, 0), api.Answer{Err: api.ErrPath}))
	is(t, "the root", w.Do(calls(1, lookup("/"))), done(acted(1, 1, 0, 0, 0), api.Answer{Node: api.Node{ID: api.Root, Kind: api.KindDir}}))
	if len(w.Letters()) != 1 || !w.Busy(2) || w.Busy(1) {
		t.Errorf("in flight is %v; busy: %v, %v", w.Letters(), w.Busy(1), w.Busy(2))
	}
	calm(t, w)
	if answer := does(t, w, 1, create("/f", 3)); !likeAnswer(answer, api.Answer{Version: 1}) {
		t.Errorf("create: %+v", answer)
	}
	// What client 1 was told it answers at home, at its own version.
	does(t, w, 2, create("/g", 4))
	is(t, "at home", w.Do(calls(1, lookup("/f"))), done(acted(1, 1, 1, 0, 2), api.Answer{Version: 1, Node: api.Node{ID: 2, Kind: api.KindFile, Mode: 3}}))
	// A call can be made while the server is down.
	w.Do(of(api.EvCut, 0))
	step := acted(1, 1, 1, 1, 0)
	step.Up = false
	is(t, "down", w.Do(calls(1, lookup("/g"))), step)
}

// lettered is a world with the asks of so many clients in flight, the one of client 1 first.
func lettered(t *testing.T, clients int) (*world.World, []api.Letter) {
	t.Helper()
	w := knows(t, limits(clients), 99)
	for c := range clients {
		w.Do(calls(c+1, sync))
	}
	if len(w.Letters()) != clients {
		t.Fatalf("in flight are %v", w.Letters())
	}
	return w, w.Letters()
}

// The letter of any number is the one of that number modulo how many there are.
func TestLetterNumbers(t *testing.T) {
	for count := 1; count <= api.MaxClients; count++ {
		for n := -3 * count; n <= 3*count; n++ {
			i := (n + 3*count) % count
			isLetter(t, count, n, i)
		}
		for _, n := range []int{math.MaxInt, math.MaxInt - 1, math.MinInt, math.MinInt + 1} {
			// Euclid's remainder: the one that is not below 0.
			i := n % count
			if i < 0 {
				i += count
			}
			isLetter(t, count, n, i)
		}
	}
}

// isLetter fails if, of count letters, the one of the number n is not the i-th.
func isLetter(t *testing.T, count, n, i int) {
	t.Helper()
	what := fmt.Sprintf("letter %d of %d", n, count)
	w, all := lettered(t, count)
	is(t, what, w.Do(of(api.EvDouble, n)), server(0))
	flies(t, what+" doubled", w, append(slices.Clone(all), all[i])...)
	w, _ = lettered(t, count)
	is(t, what, w.Do(of(api.EvDrop, n)), server(0))
	left := slices.Delete(slices.Clone(all), i, i+1)
	flies(t, what+" dropped", w, left...)
	w, _ = lettered(t, count)
	is(t, what, w.Do(deliver(n)), server(0))
	reply := letter(t, i+1, api.Msg{Kind: api.MsgReply, Client: i + 1, Life: 1, Seq: 2, Mark: 1})
	flies(t, what+" delivered", w, append(left, reply)...)
}

func TestNoLetters(t *testing.T) {
	w := knows(t, limits(2), 99)
	for _, n := range []int{0, 1, -1, 64, math.MinInt, math.MaxInt} {
		for _, kind := range []int{api.EvDeliver, api.EvDrop, api.EvDouble} {
			unchanged(t, w, of(kind, n))
		}
	}
	w.Do(of(api.EvCut, 0))
	for _, kind := range []int{api.EvDeliver, api.EvDrop, api.EvDouble} {
		unchanged(t, w, of(kind, 0))
	}
}

func TestDeliver(t *testing.T) {
	w := made(t, limits(2), 99)
	look := api.Op{Kind: api.OpLook, Dir: 1, Name: "a"}
	none := api.Entry{Key: api.Key{Dir: 1, Name: "a"}, Neg: true}
	w.Do(calls(1, lookup("/a")))
	flies(t, "lookup", w, ask(t, 1, 0, look))
	is(t, "to the server", w.Do(deliver(0)), server(0))
	flies(t, "to the server", w, letter(t, 1, api.Msg{Kind: api.MsgReply, Client: 1, Life: 1, Seq: 1, Mark: 1, Err: api.ErrEpoch}))
	is(t, "ErrEpoch", w.Do(deliver(0)), acted(1, 1, 0, 1, 0))
	flies(t, "ErrEpoch", w, ask(t, 1, 1, look))
	w.Do(deliver(0))
	flies(t, "answered", w, letter(t, 1, api.Msg{Kind: api.MsgReply, Client: 1, Life: 1, Seq: 1, Mark: 1, Entries: []api.Entry{none}}))
	w.Do(of(api.EvDouble, 0))
	is(t, "done", w.Do(deliver(0)), done(acted(1, 1, 0, 0, 0), api.Answer{Err: api.ErrNotFound}))
	is(t, "done already", w.Do(deliver(0)), acted(1, 1, 0, 0, 0))

	// A break goes ahead of the reply, each to whom it concerns; what a client sends then is posted too.
	w.Do(calls(1, lookup("/a/b")))
	does(t, w, 2, sync)
	w.Do(calls(2, mkdir("/a")))
	w.Do(deliver(0))
	made := api.Entry{Key: none.Key, Node: api.Node{ID: 2, Kind: api.KindDir, Mode: 7}}
	cut := letter(t, 1, api.Msg{Kind: api.MsgBreak, Client: 1, Life: 1, Mark: 1 + 1i, Version: 1, Keys: []api.Key{none.Key}})
	flies(t, "a break", w, cut, letter(t, 2, api.Msg{Kind: api.MsgReply, Client: 2, Life: 1, Seq: 2, Mark: 1, Version: 1, Entries: []api.Entry{made}}))
	is(t, "the break", w.Do(deliver(0)), acted(1, 1, 1, 0, 1))
	is(t, "the reply", w.Do(deliver(-1)), done(acted(2, 1, 1, 0, 1), api.Answer{Version: 1}))
	w.Do(calls(1, lookup("/a/b")))
	w.Do(deliver(0))
	is(t, "a part of a walk", w.Do(deliver(0)), acted(1, 1, 1, 1, 1))
	flies(t, "a part of a walk", w, ask(t, 3, 1+1i, api.Op{Kind: api.OpLook, Dir: 2, Name: "b"}))
}

// A letter to the server that is down is lost; one to a client arrives.
func TestDeliverWhileDown(t *testing.T) {
	w := knows(t, limits(2), 99)
	w.Do(calls(1, mkdir("/a")))
	w.Run(calls(2, lookup("/a")), deliver(1), of(api.EvCut, 0))
	disk := w.Disk()
	is(t, "to the server", w.Do(deliver(0)), api.Step{})
	likeDisk(t, "to the server", w.Disk(), disk)
	step := w.Do(deliver(0))
	is(t, "to a client", step, api.Step{Client: 2, Life: 1, Done: true, Answer: api.Answer{Err: api.ErrNotFound}})
	flies(t, "both", w)
	is(t, "boot", w.Do(of(api.EvBoot, -1)), server(0))
	if len(w.History()) != 0 {
		t.Errorf("History: %v", w.History())
	}
}

// full is a world in which as many letters are in flight as there may be, all of them like the one that was there.
func full(t *testing.T, w *world.World) []api.Letter {
	t.Helper()
	for range api.MaxBag {
		w.Do(of(api.EvDouble, 0))
	}
	all := w.Letters()
	if len(all) != api.MaxBag {
		t.Fatalf("%d letters", len(all))
	}
	return all
}

func TestBagIsFull(t *testing.T) {
	w := knows(t, limits(2), 99)
	does(t, w, 1, lookup("/a"))
	w.Do(calls(2, create("/a", 3)))
	all := full(t, w)
	unchanged(t, w, of(api.EvDouble, 7))
	is(t, "call", w.Do(calls(1, lookup("/b"))), acted(1, 1, 0, 1, 0))
	is(t, "tick", w.Do(at(1, api.EvTick)), acted(1, 1, 0, 2, 0))
	flies(t, "a full bag", w, all...)
	// Of two messages, a break and a reply, the first one has room.
	is(t, "deliver", w.Do(deliver(0)), server(1))
	cut := letter(t, 1, api.Msg{Kind: api.MsgBreak, Client: 1, Life: 1, Mark: 1 + 1i, Version: 1, Keys: []api.Key{{Dir: 1, Name: "a"}}})
	flies(t, "a break and a reply", w, append(slices.Clone(all[1:]), cut)...)
	is(t, "drop", w.Do(of(api.EvDrop, 3)), server(1))
	is(t, "double", w.Do(of(api.EvDouble, -1)), server(1))
	flies(t, "room for one", w, append(slices.Clone(all[2:]), cut, cut)...)
	// Two messages are sent, one of them lost.
	w.Do(of(api.EvDrop, 0))
	is(t, "tick", w.Do(at(1, api.EvTick)), acted(1, 1, 0, 2, 1))
	flies(t, "room for one of two", w, append(slices.Clone(all[3:]), cut, cut, ask(t, 1, 1, api.Op{Kind: api.OpAgain}))...)
}

func TestTick(t *testing.T) {
	w := made(t, limits(1), 99)
	is(t, "no epoch, no call", w.Do(at(1, api.EvTick)), acted(1, 1, 0, 0, 0))
	w.Do(calls(1, sync))
	once := ask(t, 1, 0, api.Op{Kind: api.OpSync})
	is(t, "no epoch", w.Do(at(1, api.EvTick)), acted(1, 1, 0, 1, 0))
	flies(t, "no epoch", w, once, once)
	calm(t, w)
	is(t, "no call", w.Do(at(1, api.EvTick)), acted(1, 1, 0, 1, 0))
	again := ask(t, 1, 1, api.Op{Kind: api.OpAgain})
	flies(t, "no call", w, again)
	w.Do(calls(1, sync))
	once = ask(t, 2, 1, api.Op{Kind: api.OpSync})
	is(t, "a call", w.Do(at(1, api.EvTick)), acted(1, 1, 0, 2, 0))
	flies(t, "a call", w, again, once, again, once)
}

func TestCancel(t *testing.T) {
	w := knows(t, limits(1), 99)
	is(t, "no call", w.Do(at(1, api.EvCancel)), acted(1, 1, 0, 0, 0))
	w.Do(calls(1, create("/a", 3)))
	is(t, "a call", w.Do(at(1, api.EvCancel)), done(acted(1, 1, 0, 0, 0), api.Answer{Err: api.ErrCancelled}))
	if w.Busy(1) {
		t.Error("it is busy behind EvCancel")
	}
	is(t, "no call any more", w.Do(at(1, api.EvCancel)), acted(1, 1, 0, 0, 0))
	// The ask is under way still, and what it asks for is done; nobody waits for the answer.
	is(t, "the ask", w.Do(deliver(0)), server(1))
	is(t, "the reply", w.Do(deliver(0)), acted(1, 1, 0, 0, 1))
	if len(w.History()) != 1 {
		t.Errorf("History: %v", w.History())
	}
}

func TestCrash(t *testing.T) {
	w := knows(t, limits(2), 99)
	does(t, w, 1, mkdir("/a"))
	does(t, w, 1, readdir("/"))
	w.Do(calls(1, lookup("/a/b")))
	w.Run(deliver(0), calls(2, lookup("/a")))
	was := tells(w, 2)
	is(t, "crash", w.Do(at(1, api.EvCrash)), acted(1, 2, 0, 0, 1))
	// Client 1 is new; nothing else has changed, what is in flight and what the server knows of it included.
	was.Clients[1] = ofClient{Life: 2, Promises: was.Clients[1].Promises, Queue: was.Clients[1].Queue}
	alike(t, "crash", tells(w, 2), was)
	// The reply to the old life is passed over; what the new one asks is answered.
	is(t, "the old reply", w.Do(deliver(0)), acted(1, 2, 0, 0, 1))
	calm(t, w)
	if answer := does(t, w, 1, lookup("/a")); !likeAnswer(answer, api.Answer{Version: 1, Node: api.Node{ID: 2, Kind: api.KindDir, Mode: 7}}) {
		t.Errorf("lookup: %+v", answer)
	}
	for life := 3; life < 50; life++ {
		is(t, "crash", w.Do(at(1, api.EvCrash)), acted(1, life, 0, 0, 1))
	}
	if w.Life(1) != 49 || w.Life(2) != 1 {
		t.Errorf("lives %d, %d", w.Life(1), w.Life(2))
	}
	// A crash while the server is down.
	w.Do(of(api.EvCut, 0))
	is(t, "crash", w.Do(at(2, api.EvCrash)), api.Step{Client: 2, Life: 2})
}

func TestCut(t *testing.T) {
	w := knows(t, limits(1), 99)
	does(t, w, 1, mkdir("/a"))
	w.Do(calls(1, sync))
	was, disk := tells(w, 1), w.Disk()
	is(t, "cut", w.Do(of(api.EvCut, 7)), api.Step{})
	was.Up, was.Epoch, was.Version, was.Tree, was.Clients[1].Promises = false, 0, 0, nil, nil
	alike(t, "cut", tells(w, 1), was)
	disk.Cut()
	likeDisk(t, "cut", w.Disk(), disk)
	unchanged(t, w, of(api.EvCut, 7))
	// A fuse that burns is gone.
	w.Run(of(api.EvBoot, -1), of(api.EvFuse, 0), of(api.EvCut, 0), of(api.EvBoot, -1))
	does(t, w, 1, create("/f", 3))
}

// writes counts the writes that a world's disk does from here on, while f lets events happen.
func writes(w *world.World, f func()) int {
	before := w.Disk().Writes()
	f()
	return w.Disk().Writes() - before
}

func TestFuse(t *testing.T) {
	w := knows(t, limits(1), 99)
	for _, n := range []int{-1, -64, math.MinInt} {
		unchanged(t, w, of(api.EvFuse, n))
	}
	for _, n := range []int{0, 1, 3, math.MaxInt} {
		disk := w.Disk()
		if e := disk.Fuse(n); e != api.OK {
			t.Fatalf("Fuse: %d", e)
		}
		is(t, "fuse", w.Do(of(api.EvFuse, n)), server(0))
		likeDisk(t, "fuse", w.Disk(), disk)
	}
	w.Do(of(api.EvCut, 0))
	for _, n := range []int{-1, 0, 1, 7, math.MaxInt} {
		unchanged(t, w, of(api.EvFuse, n))
	}
	// A start is not held up by a fuse that was asked for while the server was down.
	is(t, "boot", w.Do(of(api.EvBoot, -1)), server(0))
}

// The power is lost behind so many writes: those are done, and with the next one the server falls, without an answer.
func TestPowerIsLost(t *testing.T) {
	for fuse := range 5 {
		w := knows(t, limits(1), 99)
		w.Do(of(api.EvFuse, fuse))
		n := writes(w, func() {
			for i := range fuse {
				if answer := does(t, w, 1, create("/"+string(rune('a'+i)), 3)); answer.Err != api.OK {
					t.Errorf("fuse %d, mutation %d: %+v", fuse, i, answer)
				}
			}
			w.Do(calls(1, create("/z", 3)))
			w.Do(of(api.EvDouble, 0))
			is(t, "power", w.Do(deliver(0)), api.Step{})
		})
		if n != fuse || w.Up() || w.Disk().On() || len(w.Letters()) != 1 || len(w.History()) != fuse || !w.Busy(1) {
			t.Errorf("fuse %d: %d writes, up: %v, on: %v, %v, History %v", fuse, n, w.Up(), w.Disk().On(), w.Letters(), w.History())
		}
		is(t, "the double", w.Do(deliver(0)), api.Step{})
		// The mutation that was in flight is done when it is asked for again.
		is(t, "boot", w.Do(of(api.EvBoot, -1)), server(fuse))
		w.Do(at(1, api.EvTick))
		steps := calm(t, w)
		if !slices.ContainsFunc(steps, func(s api.Step) bool { return s.Done && s.Answer.Err == api.OK && s.Version == fuse+1 }) || len(w.History()) != fuse+1 {
			t.Errorf("fuse %d: %+v, History %v", fuse, steps, w.History())
		}
	}
}

func TestBoot(t *testing.T) {
	w := knows(t, limits(2), 99)
	does(t, w, 1, mkdir("/a"))
	for _, n := range []int{-1, 0, 1, math.MaxInt, math.MinInt} {
		unchanged(t, w, of(api.EvBoot, n))
	}
	w.Do(of(api.EvCut, 0))
	// A start without power for its write.
	was, disk := tells(w, 2), w.Disk()
	for range 3 {
		is(t, "no power", w.Do(of(api.EvBoot, 0)), api.Step{})
		alike(t, "no power", tells(w, 2), was)
		likeDisk(t, "no power", w.Disk(), disk)
	}
	// Starts with just the power for their write: the server is up, till it is to write again.
	for epoch := 2; epoch < 6; epoch++ {
		is(t, "power for a start", w.Do(of(api.EvBoot, 1)), server(1))
		if w.Epoch() != epoch || !w.Disk().On() {
			t.Errorf("epoch %d, on: %v", w.Epoch(), w.Disk().On())
		}
		w.Do(calls(1, create("/b", 3)))
		calm(t, w)
		if w.Up() || len(w.History()) != 1 {
			t.Errorf("up: %v, History %v", w.Up(), w.History())
		}
		w.Do(at(1, api.EvCancel))
	}
	for _, n := range []int{-1, math.MinInt, math.MaxInt} {
		w.Do(of(api.EvCut, 0))
		is(t, "power", w.Do(of(api.EvBoot, n)), server(1))
	}
	for i := range 20 {
		if answer := does(t, w, 1, create("/"+string(rune('b'+i)), 3)); answer.Err != api.OK {
			t.Errorf("%+v", answer)
		}
	}
}

// A start whose power goes within its writes, on a disk whose journal has no room left, as often as one likes.
func TestPowerOfAStart(t *testing.T) {
	w := knows(t, limits(1), 9)
	does(t, w, 1, create("/a", 3))
	for start := range 30 {
		w.Do(of(api.EvCut, 0))
		tried := 0
		for ; !w.Do(of(api.EvBoot, tried)).Up; tried++ {
			if tried > 9 {
				t.Fatal("it does not come back")
			}
			if w.Up() || w.Epoch() != 0 || w.Disk().On() || len(w.History()) != 1 {
				t.Errorf("up: %v, on: %v", w.Up(), w.Disk().On())
			}
		}
		// Half a disk has four blocks: each start writes one, or lays three anew, with a header.
		if tried != 1 && tried != 4 || w.Epoch() != start+2 || w.Version() != 1 {
			t.Errorf("start %d: %d writes, epoch %d, version %d", start, tried, w.Epoch(), w.Version())
		}
	}
}

func TestRun(t *testing.T) {
	if steps := made(t, limits(1), 9).Run(); len(steps) != 0 {
		t.Errorf("of no events: %v", steps)
	}
	x := newWeather(3)
	w, other := made(t, x.conf, x.blocks), made(t, x.conf, x.blocks)
	var events []api.Event
	var want []api.Step
	for range 300 {
		ev := x.event(w)
		events = append(events, ev)
		want = append(want, w.Do(ev))
	}
	is(t, "of one", other.Run(events[0])[0], want[0])
	got := other.Run(events[1:]...)
	if len(got) != len(want)-1 {
		t.Fatalf("%d steps", len(got))
	}
	for i, step := range got {
		is(t, "of many", step, want[i+1])
	}
	alike(t, "of many", tells(other, x.conf.Clients), tells(w, x.conf.Clients))
}
