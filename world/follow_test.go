package world_test

import (
	"slices"
	"testing"

	"vista/api"
	"vista/tree"
)

// P16.4

// event is the next one of a made-up script: often a read that has completed is called for once more.
func (v *watch) event(x *weather) api.Event {
	client := 1 + x.r.Intn(x.conf.Clients)
	if again := v.seats[client].again; again.Kind > 0 && x.r.Intn(3) == 0 {
		return calls(client, again)
	}
	return x.event(v.w)
}

// Of each made-up script all that follows holds at each step.
func TestWhatFollows(t *testing.T) {
	count := map[string]int{}
	for seed := range 400 {
		x := newWeather(seed)
		v := watches(t, x.conf, x.blocks)
		v.count = count
		for range 500 {
			if v.do(t, v.event(x)); t.Failed() {
				t.Fatalf("at the seed %d", seed)
			}
		}
	}
	enough(t, count, map[string]int{
		"reads": 15000, "named": 800, "home": 10000, "again": 5000, "evicted": 500, "synced": 800, "done": 1500, "refused": 3000, "full": 1000, "once": 3000,
		"born": 150, "falls": 1000, "epochs": 1000, "flushed": 300,
	})
}

// knowing is a watch over clients that know the epoch, with nothing in flight.
func knowing(t *testing.T, conf api.Conf, blocks int) *watch {
	t.Helper()
	v := watches(t, conf, blocks)
	for c := range conf.Clients {
		v.does(t, c+1, sync)
	}
	return v
}

// comes fails if an answer is another one.
func comes(t *testing.T, what string, got, want api.Answer) {
	t.Helper()
	if !likeAnswer(got, want) {
		t.Errorf("%s: %+v, not %+v", what, got, want)
	}
}

// A reply that a break has overtaken tells nothing of what the break names, and is no whole one (T1, T5).
func TestOvertaken(t *testing.T) {
	file := api.Node{ID: 2, Kind: api.KindFile, Mode: 3}
	for what, c := range map[string]struct {
		call api.Call
		want api.Answer
	}{
		"a name":      {lookup("/x"), api.Answer{Version: 1, Node: file}},
		"a directory": {readdir("/"), api.Answer{Version: 1, Names: []string{"x"}}},
	} {
		v := knowing(t, limits(2), 99)
		// In flight are then the reply, the break, and the reply to client 2.
		v.run(t, calls(1, c.call), deliver(0), calls(2, create("/x", 3)), deliver(-1))
		steps := v.run(t, deliver(1), deliver(0))
		is(t, what, steps[0], acted(1, 1, 1, 0, 1))
		is(t, what, steps[1], acted(1, 1, 1, 1, 1))
		comes(t, what, completes(t, 1, v.calm(t)), c.want)
	}
}

// A mutation that was answered ErrFull is not done when its ask comes once more, even if there is room now (T3).
func TestFullTwice(t *testing.T) {
	// Half of this disk has room for a snapshot of four records.
	v := knowing(t, limits(2), 11)
	v.does(t, 1, create("/a", 3))
	v.does(t, 1, create("/b", 3))
	steps := v.run(t, calls(1, create("/c", 3)), of(api.EvDouble, 0), deliver(0), deliver(-1))
	comes(t, "no room", completes(t, 1, steps), api.Answer{Err: api.ErrFull, Version: 2})
	for i, path := range []string{"/a", "/b"} {
		// The ask that is there already stays in flight.
		steps := v.run(t, calls(2, unlink(path)), deliver(-1), deliver(-1))
		comes(t, path, completes(t, 2, steps), api.Answer{Version: 3 + i})
	}
	v.calm(t)
	comes(t, "room", v.does(t, 1, create("/c", 3)), api.Answer{Version: 5})
}

// A mutation whose answer was lost has it again, behind all that others have done since, and behind a start (T3).
func TestFirstAnswerAgain(t *testing.T) {
	v := knowing(t, limits(2), 99)
	v.run(t, calls(1, create("/a", 3)), deliver(0), of(api.EvDrop, 0))
	v.does(t, 2, unlink("/a"))
	comes(t, "another client's", v.does(t, 2, mkdir("/a")), api.Answer{Version: 3})
	v.run(t, at(1, api.EvTick))
	comes(t, "OK again", completes(t, 1, v.calm(t)), api.Answer{Version: 3})
	v.run(t, calls(1, create("/a", 3)), deliver(0), of(api.EvDrop, 0))
	comes(t, "another client's", v.does(t, 2, api.Call{Kind: api.CallRmdir, Path: "/a"}), api.Answer{Version: 4})
	v.run(t, of(api.EvCut, 0), of(api.EvBoot, -1), at(1, api.EvTick))
	comes(t, "ErrExist again", completes(t, 1, v.calm(t)), api.Answer{Err: api.ErrExist, Version: 4})
}

// What an old life has asked for comes too late, when a new one has asked; of the new one nothing comes to the old.
func TestOldLife(t *testing.T) {
	v := knowing(t, limits(2), 99)
	v.run(t, calls(1, create("/a", 3)), of(api.EvDouble, 0), of(api.EvDouble, 0), at(1, api.EvCrash))
	// Of the new life's letters each is the last one in flight: its ask, ErrEpoch, its ask once more, the reply.
	steps := v.run(t, calls(1, sync), deliver(-1), deliver(-1), deliver(-1), deliver(-1))
	comes(t, "sync", completes(t, 1, steps), api.Answer{})
	v.run(t, deliver(0), of(api.EvCut, 0), of(api.EvBoot, -1), deliver(0))
	comes(t, "the new life", v.does(t, 1, lookup("/a")), api.Answer{Err: api.ErrNotFound})
	if len(v.last.History) != 0 {
		t.Errorf("History: %v", v.last.History)
	}
}

// As long as breaks are lost nothing of a later version is answered: a tick brings them, or one that says everything (T2, T5).
func TestLostBreaks(t *testing.T) {
	for _, queue := range []int{1, 2, 4} {
		conf := limits(2)
		conf.Queue = queue
		v := knowing(t, conf, 99)
		names := []string{"/a", "/b", "/c"}
		for _, name := range names {
			comes(t, "none yet", v.does(t, 1, lookup(name)), api.Answer{Err: api.ErrNotFound})
		}
		for _, name := range names {
			v.run(t, calls(2, create(name, 3)), deliver(0), of(api.EvDrop, 0), deliver(0))
		}
		for _, name := range names {
			is(t, "at home", v.do(t, calls(1, lookup(name))), done(acted(1, 1, 0, 0, 3), api.Answer{Err: api.ErrNotFound}))
		}
		v.run(t, calls(1, sync))
		if steps := v.calm(t); steps[len(steps)-1].Done || v.last.Clients[1].Held != 1 {
			t.Errorf("queue %d: %+v, held %d", queue, steps, v.last.Clients[1].Held)
		}
		v.run(t, at(1, api.EvTick))
		comes(t, "all breaks are there", completes(t, 1, v.calm(t)), api.Answer{Version: 3})
		for i, name := range names {
			comes(t, name, v.does(t, 1, lookup(name)), api.Answer{Version: 3, Node: api.Node{ID: 2 + i, Kind: api.KindFile, Mode: 3}})
		}
	}
}

// A read that has completed is answered so, whatever happens elsewhere (T8).
func TestCalm(t *testing.T) {
	v := knowing(t, limits(2), 99)
	v.does(t, 2, mkdir("/a"))
	comes(t, "readdir", v.does(t, 1, readdir("/a/..")), api.Answer{Version: 1, Names: []string{"a"}})
	elsewhere := []api.Event{
		calls(2, rename("/a", "/b")), deliver(0), deliver(-1), at(2, api.EvCrash), of(api.EvFuse, 0), of(api.EvCut, 0), at(1, api.EvTick),
		of(api.EvBoot, 0), of(api.EvBoot, -1), at(1, api.EvCancel), of(api.EvDrop, 0), of(api.EvDouble, 0), calls(2, lookup("/a")), deliver(-1),
	}
	for _, ev := range elsewhere {
		if ev.Kind == api.EvDeliver && v.last.Letters[(ev.N+len(v.last.Letters))%len(v.last.Letters)].To == 1 {
			t.Fatalf("%+v reaches client 1", ev)
		}
		v.run(t, ev)
		step := v.do(t, calls(1, readdir("/a/..")))
		if !step.Done || step.Sent != 0 {
			t.Errorf("behind %+v: %+v", ev, step)
		}
		comes(t, "once more", step.Answer, api.Answer{Version: 1, Names: []string{"a"}})
	}
	if v.count["again"] != len(elsewhere) {
		t.Errorf("called once more %d times", v.count["again"])
	}
}

// The power is lost behind each raw write of a script, and in the starts behind it: the server comes back with just what was answered (T4).
func TestEachCut(t *testing.T) {
	for _, blocks := range []int{9, 13, 40} {
		for fuse := range 60 {
			w := knows(t, limits(1), blocks)
			w.Do(of(api.EvFuse, fuse))
			answered := 0
			for i := range 20 {
				c := create("/f", 3)
				if i%2 == 1 {
					c = unlink("/f")
				}
				steps := append([]api.Step{w.Do(calls(1, c))}, calm(t, w)...)
				last := steps[len(steps)-1]
				if !last.Done {
					break
				}
				if last.Answer.Err != api.OK {
					t.Fatalf("%d blocks, fuse %d: %+v", blocks, fuse, last)
				}
				answered++
			}
			w.Do(of(api.EvCut, 0))
			for cut := range 6 {
				w.Run(of(api.EvBoot, cut), of(api.EvCut, 0))
			}
			is(t, "boot", w.Do(of(api.EvBoot, -1)), server(answered))
			x := tree.New()
			for _, op := range w.History() {
				x.Apply(op)
			}
			if x.Version() != answered || !slices.Equal(w.Tree(), x.Dump()) {
				t.Fatalf("%d blocks, fuse %d: answered %d, History %v, tree %v", blocks, fuse, answered, w.History(), w.Tree())
			}
		}
	}
}
