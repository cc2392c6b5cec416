package world_test

import (
	"fmt"
	"slices"
	"testing"

	"vista/api"
	"vista/world"
)

// R3, R4

// script is what a made-up weather brings upon a world.
func script(t *testing.T, seed, events int) (*weather, []api.Event) {
	t.Helper()
	x := newWeather(seed)
	w := made(t, x.conf, x.blocks)
	var all []api.Event
	for range events {
		ev := x.event(w)
		w.Do(ev)
		all = append(all, ev)
	}
	return x, all
}

// seen is a step, and all that is told behind it.
type seen struct {
	step api.Step
	told told
}

// runs does a script in a new world, and is all that is seen of it; behind each step something is done to the world.
func runs(t *testing.T, x *weather, all []api.Event, behind func(w *world.World, step api.Step)) []string {
	t.Helper()
	w := made(t, x.conf, x.blocks)
	var told []string
	for _, ev := range all {
		step := w.Do(ev)
		told = append(told, fmt.Sprintf("%+v", seen{plain(step), tells(w, x.conf.Clients)}))
		behind(w, step)
	}
	return told
}

// nothing is done behind a step.
func nothing(*world.World, api.Step) {}

// spoil writes over a list, its spare room too.
func spoil[T any](list []T, with T) {
	list = list[:cap(list)]
	for i := range list {
		list[i] = with
	}
}

// ruin writes over all that a world tells, and over a step.
func ruin(w *world.World, clients int, step api.Step) {
	key := api.Key{Dir: 77, Name: "ruined"}
	entry := api.Entry{Key: key, Node: api.Node{ID: 78, Kind: api.KindFile}}
	spoil(step.Answer.Names, "ruined")
	spoil(w.Tree(), entry)
	spoil(w.History(), api.Op{Kind: api.OpCreate, Dir: 1, Name: "ruined"})
	for _, l := range w.Letters() {
		spoil(l.Bytes, 0xff)
	}
	spoil(w.Letters(), api.Letter{To: 1, Bytes: []byte{7}})
	for c := range clients + 2 {
		spoil(w.Entries(c), entry)
		spoil(w.Promises(c), key)
		for _, b := range w.Queue(c) {
			spoil(b.Keys, key)
		}
		spoil(w.Queue(c), api.Break{Mark: 1 + 9i, Keys: []api.Key{key}})
	}
	d := w.Disk()
	for i := range d.Size() {
		d.Write(i, make([]byte, api.BlockSize))
	}
	d.Fuse(0)
	d.Cut()
}

// What was told may be written over, and the disk that was told written into: all that is told behind that is the same.
func TestNothingIsShared(t *testing.T) {
	for seed := range 120 {
		x, all := script(t, seed, 150)
		want := runs(t, x, all, nothing)
		got := runs(t, x, all, func(w *world.World, step api.Step) { ruin(w, x.conf.Clients, step) })
		if !slices.Equal(got, want) {
			t.Fatalf("seed %d: written over, it tells %v, not %v", seed, got, want)
		}
	}
}

// given is what was told, as it was given out, with a copy of it in words.
type given struct {
	step  api.Step
	told  told
	words string
}

func (k given) now() string { return fmt.Sprintf("%+v %+v", k.step, k.told) }

// What was told stays as it is, whatever comes behind it.
func TestAnswersStay(t *testing.T) {
	for seed := range 60 {
		x, all := script(t, seed, 150)
		w := made(t, x.conf, x.blocks)
		var told []given
		for _, ev := range all {
			k := given{step: w.Do(ev), told: tells(w, x.conf.Clients)}
			k.words = k.now()
			told = append(told, k)
		}
		for _, k := range told {
			if got := k.now(); got != k.words {
				t.Fatalf("seed %d: %s is now %s", seed, k.words, got)
			}
		}
	}
}

// The disk that was told stays as it is, too, and two that were told have nothing in common.
func TestDisksStay(t *testing.T) {
	w := knows(t, limits(1), 9)
	first, second := w.Disk(), w.Disk()
	want := first.Copy()
	does(t, w, 1, mkdir("/a"))
	w.Do(of(api.EvCut, 0))
	likeDisk(t, "behind a mutation", first, want)
	first.Write(3, make([]byte, api.BlockSize))
	first.Cut()
	likeDisk(t, "behind a write into the other one", second, want)
}

// apart fails if, of the lists of one answer, one that is written over changes another one.
func apart[T, U any](t *testing.T, answer func() []T, list func(T) []U, with U) {
	t.Helper()
	if len(answer()) < 2 {
		t.Fatalf("too few lists: %v", answer())
	}
	for i := range answer() {
		got, want := answer(), answer()
		spoil(list(got[i]), with)
		if text := fmt.Sprint(slices.Delete(got, i, i+1)); text != fmt.Sprint(slices.Delete(want, i, i+1)) {
			t.Errorf("list %d written over: %s", i, text)
		}
	}
}

// No two lists of one answer share memory, spare room included.
func TestListsOfOneAnswer(t *testing.T) {
	w := knows(t, limits(2), 99)
	does(t, w, 1, lookup("/a"))
	does(t, w, 1, lookup("/b"))
	for _, path := range []string{"/a", "/b"} {
		// The break to client 1 stays in flight.
		w.Run(calls(2, create(path, 3)), deliver(-1), deliver(-1))
	}
	apart(t, w.Letters, func(l api.Letter) []byte { return l.Bytes }, 0xff)
	apart(t, func() []api.Break { return w.Queue(1) }, func(b api.Break) []api.Key { return b.Keys }, api.Key{Dir: 77})
}

// The events of a list are neither changed nor kept, spare room included.
func TestEventsStay(t *testing.T) {
	x, all := script(t, 5, 100)
	roomy := slices.Grow(slices.Clone(all), 50)
	spare := api.Event{Kind: api.EvCut, Client: 77}
	spoil(roomy[len(all):len(all):cap(roomy)], spare)
	w := made(t, x.conf, x.blocks)
	steps := w.Run(roomy...)
	if !slices.Equal(roomy, all) || slices.ContainsFunc(roomy[len(all):cap(roomy)], func(ev api.Event) bool { return ev != spare }) {
		t.Error("the events have changed")
	}
	want := tells(w, x.conf.Clients)
	spoil(roomy, spare)
	spoil(steps, api.Step{Client: 77})
	alike(t, "events written over", tells(w, x.conf.Clients), want)
}

// Two worlds of the same script tell the same, whatever becomes of a third one between their steps.
func TestWorldsHaveNothingInCommon(t *testing.T) {
	for seed := range 60 {
		x, all := script(t, seed, 150)
		want := runs(t, x, all, nothing)
		other := newWeather(seed + 1000)
		third := made(t, other.conf, other.blocks)
		got := runs(t, x, all, func(*world.World, api.Step) {
			for range 3 {
				third.Do(other.event(third))
			}
			ruin(third, other.conf.Clients, api.Step{})
		})
		if !slices.Equal(got, want) {
			t.Fatalf("seed %d: beside another one it tells %v, not %v", seed, got, want)
		}
	}
}
