package world_test

import (
	"bytes"
	"fmt"
	"math"
	"reflect"
	"slices"
	"testing"

	"vista/api"
	"vista/block"
	"vista/boot"
	"vista/world"
)

// limits are right ones, of so many clients.
func limits(clients int) api.Conf {
	return api.Conf{Clients: clients, Dentries: 9, Negative: 4, Links: 3, Promises: 4, Queue: 4, Hold: 2}
}

// made is a new world.
func made(t *testing.T, conf api.Conf, blocks int) *world.World {
	t.Helper()
	w, e := world.New(conf, blocks)
	if w == nil || e != api.OK {
		t.Fatalf("New(%+v, %d): %v, %d", conf, blocks, w, e)
	}
	return w
}

// at is an event at a client, of a number, or of neither.
func at(client, kind int) api.Event { return api.Event{Kind: kind, Client: client} }

func of(kind, n int) api.Event { return api.Event{Kind: kind, N: n} }

func deliver(n int) api.Event { return of(api.EvDeliver, n) }

func calls(client int, c api.Call) api.Event {
	return api.Event{Kind: api.EvCall, Client: client, Call: c}
}

func lookup(path string) api.Call { return api.Call{Kind: api.CallLookup, Path: path} }

func readdir(path string) api.Call { return api.Call{Kind: api.CallReaddir, Path: path} }

func create(path string, mode int) api.Call {
	return api.Call{Kind: api.CallCreate, Path: path, Mode: mode}
}

func mkdir(path string) api.Call { return api.Call{Kind: api.CallMkdir, Path: path, Mode: 7} }

func symlink(path, target string) api.Call {
	return api.Call{Kind: api.CallSymlink, Path: path, Other: target}
}

func rename(path, other string) api.Call {
	return api.Call{Kind: api.CallRename, Path: path, Other: other}
}

func unlink(path string) api.Call { return api.Call{Kind: api.CallUnlink, Path: path} }

var sync = api.Call{Kind: api.CallSync}

// calm lets the letters arrive, the first one first, till none is in flight.
func calm(t *testing.T, w *world.World) []api.Step {
	t.Helper()
	var steps []api.Step
	for len(w.Letters()) > 0 {
		if len(steps) > 1000 {
			t.Fatal("it does not become calm")
		}
		steps = append(steps, w.Do(deliver(0)))
	}
	return steps
}

// loses drops all letters.
func loses(t *testing.T, w *world.World) {
	t.Helper()
	for range len(w.Letters()) {
		w.Do(of(api.EvDrop, 0))
	}
	flies(t, "all dropped", w)
}

// does lets a client's call complete, with nothing lost, and is its answer.
func does(t *testing.T, w *world.World, client int, c api.Call) api.Answer {
	t.Helper()
	return completes(t, client, append([]api.Step{w.Do(calls(client, c))}, calm(t, w)...))
}

// plain is a step whose empty list is nil: the two are one.
func plain(s api.Step) api.Step {
	if len(s.Answer.Names) == 0 {
		s.Answer.Names = nil
	}
	return s
}

func likeStep(a, b api.Step) bool { return reflect.DeepEqual(plain(a), plain(b)) }

func likeAnswer(a, b api.Answer) bool {
	return likeStep(api.Step{Answer: a}, api.Step{Answer: b})
}

// is fails if a step is not this one.
func is(t *testing.T, what string, got, want api.Step) {
	t.Helper()
	if !likeStep(got, want) {
		t.Errorf("%s: %+v, not %+v", what, got, want)
	}
}

// server is a step in which no client has acted, and behind which a server is up.
func server(version int) api.Step { return api.Step{Up: true, Server: version} }

// ofClient is what a world tells of one client.
type ofClient struct {
	Life, Seen, Held int
	Busy             bool
	Mark             complex128
	Entries          []api.Entry
	Whole            []int
	Promises         []api.Key
	Queue            []api.Break
}

// told is all that a world tells, but for its disk. A list without elements is nil there.
type told struct {
	Up             bool
	Epoch, Version int
	Tree           []api.Entry
	History        []api.Op
	Letters        []api.Letter
	Clients        []ofClient
}

// some is a list that is nil, if it has no elements.
func some[T any](list []T) []T {
	if len(list) == 0 {
		return nil
	}
	return list
}

// broken are breaks whose lists are nil, if they have no elements.
func broken(queue []api.Break) []api.Break {
	queue = slices.Clone(queue)
	for i := range queue {
		queue[i].Keys = some(queue[i].Keys)
	}
	return some(queue)
}

// tells asks a world for all that it tells, of so many clients and their neighbours, which are none.
func tells(w *world.World, clients int) told {
	x := told{Up: w.Up(), Epoch: w.Epoch(), Version: w.Version(), Tree: some(w.Tree()), History: some(w.History()), Letters: some(w.Letters())}
	for c := range clients + 2 {
		y := ofClient{w.Life(c), w.Seen(c), w.Held(c), w.Busy(c), w.Mark(c), some(w.Entries(c)), nil, some(w.Promises(c)), broken(w.Queue(c))}
		// A mutation gives at most one id.
		for dir := range len(x.History) + 4 {
			if w.Whole(c, dir) {
				y.Whole = append(y.Whole, dir)
			}
		}
		x.Clients = append(x.Clients, y)
	}
	return x
}

// alike fails if all that was told is not what it must be.
func alike(t *testing.T, what string, got, want told) {
	t.Helper()
	if !reflect.DeepEqual(got, want) {
		t.Errorf("%s: it tells\n%+v, not\n%+v", what, got, want)
	}
}

// likeDisk fails if two disks differ: in a block, in their power, or in the writes that they do ahead of losing it, up to ten.
func likeDisk(t *testing.T, what string, got, want *block.Disk) {
	t.Helper()
	if got.Size() != want.Size() || got.On() != want.On() || got.Writes() != want.Writes() {
		t.Errorf("%s: %d blocks, on: %v, %d writes, not %d, %v, %d", what, got.Size(), got.On(), got.Writes(), want.Size(), want.On(), want.Writes())
		return
	}
	for i := range want.Size() {
		b, _ := got.Read(i)
		if other, _ := want.Read(i); !bytes.Equal(b, other) {
			t.Errorf("%s: block %d is %x, not %x", what, i, b, other)
		}
	}
	got, want = got.Copy(), want.Copy()
	for i := range 10 {
		if e, other := got.Write(0, make([]byte, api.BlockSize)), want.Write(0, make([]byte, api.BlockSize)); e != other {
			t.Errorf("%s: write %d: %d, not %d", what, i, e, other)
		}
	}
}

// unchanged fails if an event changes anything, or has another step than one that no client has a part in.
func unchanged(t *testing.T, w *world.World, ev api.Event) {
	t.Helper()
	was, disk := tells(w, api.MaxClients), w.Disk()
	is(t, fmt.Sprintf("%+v", ev), w.Do(ev), api.Step{Up: was.Up, Server: was.Version})
	alike(t, fmt.Sprintf("%+v", ev), tells(w, api.MaxClients), was)
	likeDisk(t, fmt.Sprintf("%+v", ev), w.Disk(), disk)
}

// P16.1

// begins fails if New does not answer a world at its beginning.
func begins(t *testing.T, conf api.Conf, blocks int) {
	t.Helper()
	what := fmt.Sprintf("New(%+v, %d)", conf, blocks)
	d, _ := block.New(blocks)
	boot.Format(d)
	if _, e := boot.Start(d, conf); e != api.OK {
		t.Fatalf("Start: %d", e)
	}
	want := told{Up: true, Epoch: 1, Clients: make([]ofClient, conf.Clients+2)}
	for c := range conf.Clients {
		want.Clients[c+1].Life = 1
	}
	w := made(t, conf, blocks)
	alike(t, what, tells(w, conf.Clients), want)
	likeDisk(t, what, w.Disk(), d)
}

// refused fails if New does not answer nil and ErrArg.
func refused(t *testing.T, conf api.Conf, blocks int) {
	t.Helper()
	if w, e := world.New(conf, blocks); w != nil || e != api.ErrArg {
		t.Errorf("New(%+v, %d): %v, %d", conf, blocks, w, e)
	}
}

func TestNew(t *testing.T) {
	fields := []struct {
		field       func(*api.Conf) *int
		least, most int
	}{
		{func(c *api.Conf) *int { return &c.Clients }, 1, api.MaxClients},
		{func(c *api.Conf) *int { return &c.Dentries }, 1, api.MaxDentries},
		{func(c *api.Conf) *int { return &c.Negative }, 1, api.MaxNegative},
		{func(c *api.Conf) *int { return &c.Links }, 0, api.MaxLinks},
		{func(c *api.Conf) *int { return &c.Promises }, 1, api.MaxPromises},
		{func(c *api.Conf) *int { return &c.Queue }, 1, api.MaxQueue},
		{func(c *api.Conf) *int { return &c.Hold }, 0, api.MaxHold},
	}
	for i, f := range fields {
		conf := limits(2)
		for _, n := range []int{f.least, f.most} {
			*f.field(&conf) = n
			begins(t, conf, 99)
		}
		for _, n := range []int{f.least - 1, f.most + 1, math.MinInt, math.MaxInt} {
			*f.field(&conf) = n
			refused(t, conf, 99)
			refused(t, conf, 8)
		}
		if t.Failed() {
			t.Fatalf("at the field %d", i)
		}
	}
	for _, blocks := range []int{9, 10, 11, api.MaxBlocks - 1, api.MaxBlocks} {
		begins(t, limits(3), blocks)
	}
	for _, blocks := range []int{8, 3, 1, 0, -1, api.MaxBlocks + 1, math.MinInt, math.MaxInt} {
		refused(t, limits(3), blocks)
		refused(t, api.Conf{}, blocks)
	}
}

// On the least disk a name can be made, and the server comes back with it.
func TestLeastDisk(t *testing.T) {
	w := made(t, limits(1), 9)
	for i := range 20 {
		c := create("/f", 3)
		if i%2 == 1 {
			c = unlink("/f")
		}
		if answer := does(t, w, 1, c); answer.Err != api.OK || answer.Version != i+1 {
			t.Fatalf("%+v: %+v", c, answer)
		}
		w.Do(at(0, api.EvCut))
		is(t, "boot", w.Do(of(api.EvBoot, -1)), server(i+1))
	}
}

// Examples of the chapter.
func TestExamples(t *testing.T) {
	w := made(t, limits(2), 99)
	is(t, "mkdir", w.Do(calls(1, mkdir("/a"))), api.Step{Client: 1, Life: 1, Sent: 1, Up: true})
	steps := w.Run(deliver(0), deliver(0), deliver(0), deliver(0))
	if len(steps) != 4 {
		t.Fatalf("four events: %+v", steps)
	}
	is(t, "to 0", steps[0], server(0))
	is(t, "ErrEpoch to 1", steps[1], api.Step{Client: 1, Life: 1, Sent: 1, Up: true})
	is(t, "once more to 0", steps[2], server(1))
	is(t, "done", steps[3], api.Step{Client: 1, Life: 1, Version: 1, Done: true, Answer: api.Answer{Version: 1}, Up: true, Server: 1})
	if got := fmt.Sprint(w.History()); got != fmt.Sprint([]api.Op{{Kind: api.OpMkdir, Dir: 1, Name: "a", Mode: 7}}) {
		t.Errorf("History: %s", got)
	}
	is(t, "lookup", w.Do(calls(2, lookup("/a"))), api.Step{Client: 2, Life: 1, Sent: 1, Up: true, Server: 1})
	is(t, "cut", w.Do(at(0, api.EvCut)), api.Step{})
	if w.Up() {
		t.Error("it is up behind EvCut")
	}
	is(t, "boot", w.Do(of(api.EvBoot, -1)), server(1))
	if !w.Up() || w.Epoch() != 2 || w.Version() != 1 {
		t.Errorf("behind EvBoot: %v, epoch %d, version %d", w.Up(), w.Epoch(), w.Version())
	}
}
