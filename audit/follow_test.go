package audit_test

import (
	"math/rand"
	"slices"
	"testing"

	"vista/api"
	"vista/audit"
	"vista/tree"
	"vista/world"
)

// P17.4

// No sight of a list is wrong, and so it is of each list that leaves some out.
func TestListsThatLeaveSomeOut(t *testing.T) {
	for seed := range 60 {
		r := rand.New(rand.NewSource(int64(seed)))
		history := anyHistory(r, r.Intn(8))
		sights := watched(r, history, 8, 3)
		for which := range 1 << len(sights) {
			var some []api.Sight
			for i, s := range sights {
				if which>>i&1 == 1 {
					some = append(some, s)
				}
			}
			if got := audit.Check(history, some, 3); got != -1 {
				t.Fatalf("at the seed %d: Check is %d, of %v, %+v", seed, got, history, some)
			}
		}
	}
}

// merged has the sights of several lists, those of each list in their order.
func merged(r *rand.Rand, lists [][]api.Sight) []api.Sight {
	var all []api.Sight
	for len(lists) > 0 {
		i := r.Intn(len(lists))
		if len(lists[i]) == 0 {
			lists = slices.Delete(lists, i, i+1)
			continue
		}
		all = append(all, lists[i][0])
		lists[i] = lists[i][1:]
	}
	return all
}

// Sights of different clients stand in any order among each other; a wrong one is found wherever it has come to stand.
func TestClientsInAnyOrder(t *testing.T) {
	for seed := range 600 {
		r := rand.New(rand.NewSource(int64(seed)))
		history := anyHistory(r, r.Intn(10))
		var own [][]api.Sight
		for client := range 1 + r.Intn(4) {
			sights := watched(r, history, r.Intn(8), 3)
			for i := range sights {
				sights[i].Client, sights[i].Life = client, 1
			}
			// What one client sees of a history never falls.
			slices.SortStableFunc(sights, func(a, b api.Sight) int { return a.Version - b.Version })
			own = append(own, sights)
		}
		for range 5 {
			all := merged(r, slices.Clone(own))
			if got := audit.Check(history, all, 3); got != -1 {
				t.Fatalf("at the seed %d: Check is %d, of %v, %+v", seed, got, history, all)
			}
			if len(all) == 0 {
				continue
			}
			at := r.Intn(len(all))
			all[at].Answer = turned(r, all[at].Answer)
			if got := audit.Check(history, all, 3); got != at {
				t.Fatalf("at the seed %d: Check is %d, and the sight %d is turned, of %v, %+v", seed, got, at, history, all)
			}
		}
	}
}

// Where each sight has a client of its own, any order will do.
func TestClientsOfOneSight(t *testing.T) {
	for seed := range 300 {
		r := rand.New(rand.NewSource(int64(seed)))
		history := anyHistory(r, r.Intn(10))
		sights := watched(r, history, 10, 3)
		for i := range sights {
			sights[i].Client = i
		}
		r.Shuffle(len(sights), func(i, j int) { sights[i], sights[j] = sights[j], sights[i] })
		if got := audit.Check(history, sights, 3); got != -1 {
			t.Fatalf("at the seed %d: Check is %d, of %v, %+v", seed, got, history, sights)
		}
	}
}

// What the tree itself answers, version after version, is right; the one that is turned is found.
func TestVersionAfterVersion(t *testing.T) {
	for seed := range 100 {
		r := rand.New(rand.NewSource(int64(seed)))
		history := anyHistory(r, 1+r.Intn(12))
		var sights []api.Sight
		for version := range len(history) + 1 {
			for range 3 {
				sights = append(sights, seen(t, history, 1, 1, version, anyCall(r)))
			}
		}
		checks(t, history, -1, sights...)
		for at := range sights {
			other := slices.Clone(sights)
			other[at].Answer = turned(r, other[at].Answer)
			checks(t, history, at, other...)
		}
		// The last one of a version and the first one of the next, turned round.
		for at := 3; at < len(sights); at += 3 {
			other := slices.Clone(sights)
			other[at], other[at-1] = other[at-1], other[at]
			checks(t, history, at, other...)
		}
		if t.Failed() {
			t.Fatalf("at the seed %d", seed)
		}
	}
}

// pathOf is the one path of names to a node.
func pathOf(x *tree.Tree, id int) string {
	path := ""
	for id != api.Root {
		e, _ := x.Find(id)
		path, id = "/"+e.Key.Name+path, e.Key.Dir
	}
	return path
}

// Answer asks nothing but the tree: each node is found by its names, and each tree that answers as this one does has the same answers.
func TestTheTreeAlone(t *testing.T) {
	for seed := range 300 {
		r := rand.New(rand.NewSource(int64(seed)))
		history := anyHistory(r, 1+r.Intn(25))
		x := at(t, history, len(history))
		for _, e := range x.Dump() {
			if path := pathOf(x, e.Node.ID); len(path) <= api.MaxPath {
				answers(t, x, stat(path), 0, is(e.Node))
			}
		}
		loaded, e := tree.Load(x.Dump(), x.Version(), x.Next())
		if e != api.OK {
			t.Fatal(e)
		}
		others := []*tree.Tree{x, x.Copy(), loaded, at(t, history, len(history))}
		for range 20 {
			call, links := anyCall(r), anyLinks(r)
			want := audit.Answer(x, call, links)
			for _, other := range others {
				answers(t, other, call, links, want)
			}
		}
		for _, other := range others {
			like(t, other, x)
		}
		if t.Failed() {
			t.Fatalf("at the seed %d: %v", seed, history)
		}
	}
}

// Two histories that come to the same tree give it the same answers, at whatever version.
func TestHistoriesThatComeToTheSame(t *testing.T) {
	one := at(t, []api.Op{mkdir(1, "a", 7), create(2, "f", 1), symlink(1, "l", "a/f")}, 3)
	other := at(t, []api.Op{mkdir(1, "a", 7), create(1, "x", 1), symlink(1, "y", "a/f"), rename(1, "x", 2, "f"), rename(1, "y", 1, "l"), setattr(2, "f", 1)}, 6)
	for _, path := range []string{"/", "/a", "/a/f", "/l", "/l/", "/a/", "/x", "/y", "/a/..", "/a/f/.."} {
		for _, kind := range readKinds() {
			a, b := audit.Answer(one, reads(kind, path), 3), audit.Answer(other, reads(kind, path), 3)
			if !audit.Same(a, b) || a.Version != 3 || b.Version != 6 {
				t.Errorf("kind %d, %s: %+v, %+v", kind, path, a, b)
			}
		}
	}
}

// crowd calls the clients of a world, and keeps what they see.
type crowd struct {
	r      *rand.Rand
	w      *world.World
	conf   api.Conf
	calls  []api.Call
	sights []api.Sight
}

// event is a made-up one: letters arrive, get lost, come twice, out of their order; clients and the server crash.
func (c *crowd) event() api.Event {
	letters, client := len(c.w.Letters()), 1+c.r.Intn(c.conf.Clients)
	chance := c.r.Intn(100)
	switch {
	case !c.w.Up() && chance < 30:
		return api.Event{Kind: api.EvBoot, N: c.r.Intn(9) - 1}
	case letters > 0 && chance < 75:
		return api.Event{Kind: api.EvDeliver, N: c.r.Intn(min(letters, 3))}
	case letters > 0 && chance < 79:
		return api.Event{Kind: api.EvDrop + c.r.Intn(2), N: c.r.Intn(letters)}
	case chance < 80:
		return api.Event{Kind: []int{api.EvCrash, api.EvCancel, api.EvCut, api.EvFuse}[c.r.Intn(4)], Client: client, N: c.r.Intn(9)}
	case c.w.Busy(client) && (letters == 0 || chance < 84):
		return api.Event{Kind: api.EvTick, Client: client}
	case c.w.Busy(client):
		return api.Event{Kind: api.EvDeliver}
	}
	call := anyCall(c.r)
	if c.r.Intn(2) == 0 {
		op := anyOp(c.r, 2)
		call = api.Call{Kind: op.Kind - api.OpCreate + api.CallCreate, Path: anyPath(c.r, 2), Other: anyPath(c.r, 2), Mode: op.Mode}
		if op.Kind == api.OpSymlink {
			call.Other = op.Target
		}
	}
	return api.Event{Kind: api.EvCall, Client: client, Call: call}
}

// do does an event, and keeps the sight of a read that completes.
func (c *crowd) do(ev api.Event) {
	if ev.Kind == api.EvCall && !c.w.Busy(ev.Client) {
		c.calls[ev.Client] = ev.Call
	}
	step := c.w.Do(ev)
	if !step.Done || ev.Kind == api.EvCancel || !slices.Contains(readKinds(), c.calls[step.Client].Kind) {
		return
	}
	c.sights = append(c.sights, api.Sight{Client: step.Client, Life: step.Life, Version: step.Answer.Version, Call: c.calls[step.Client], Answer: step.Answer})
}

// What the clients of a world see can be explained by its one history (W1), whatever is lost, doubled or turned round, whoever crashes; a sight that is turned can't.
func TestSightsOfWorlds(t *testing.T) {
	reads, nodes, versions := 0, 0, 0
	for seed := range 120 {
		r := rand.New(rand.NewSource(int64(seed)))
		conf := api.Conf{Clients: 1 + r.Intn(4), Dentries: 1 + r.Intn(20), Negative: 1 + r.Intn(6), Links: r.Intn(4), Promises: 1 + r.Intn(12), Queue: 1 + r.Intn(6), Hold: r.Intn(5)}
		w, e := world.New(conf, 80)
		if e != api.OK {
			t.Fatal(e)
		}
		c := &crowd{r: r, w: w, conf: conf, calls: make([]api.Call, conf.Clients+1)}
		for range 1500 {
			c.do(c.event())
		}
		if got := audit.Check(w.History(), c.sights, conf.Links); got != -1 {
			t.Fatalf("at the seed %d: the sight %d is wrong, %+v, of the history %v", seed, got, c.sights[got], w.History())
		}
		reads, versions = reads+len(c.sights), versions+len(w.History())
		for i, s := range c.sights {
			if s.Answer.Node.ID > 0 {
				nodes++
			}
			was := s.Answer
			c.sights[i].Answer = turned(r, was)
			if got := audit.Check(w.History(), c.sights, conf.Links); got != i {
				t.Fatalf("at the seed %d: Check is %d, and the sight %d is turned", seed, got, i)
			}
			c.sights[i].Answer = was
		}
	}
	if reads < 5000 || nodes < 1000 || versions < 1000 {
		t.Errorf("%d reads, %d of them with nodes, %d versions", reads, nodes, versions)
	}
}
