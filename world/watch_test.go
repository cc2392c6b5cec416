package world_test

import (
	"slices"
	"testing"

	"vista/api"
	"vista/boot"
	"vista/dent"
	"vista/name"
	"vista/tree"
	"vista/walk"
	"vista/wire"
	"vista/world"
)

// asked names an ask.
type asked struct{ client, life, seq int }

// came is what a mutation came to when it was handled first, and the server's version behind it.
type came struct {
	err     api.Errno
	version int
}

// seat is what is seen of a client.
type seat struct {
	life, version int
	// call is the one that was begun last, and goes on if the client is busy; least is the server's version when it was called.
	call  api.Call
	busy  bool
	least int
	// out is the ask that is out, as far as it was seen: where it found no room, its Seq is 0.
	out api.Msg
	// again is the read that is answered so, as long as nothing reaches the client; the kind is 0 if there is none.
	again  api.Call
	answer api.Answer
}

// watch looks at each step of a world, for what follows from the chapter (P16.4).
type watch struct {
	w    *world.World
	conf api.Conf
	last told
	// trees has the tree behind so many ops of History.
	trees []*tree.Tree
	seats []seat
	// epoch is the greatest of a server so far, seen what the disk says of each client's last mutation.
	epoch   int
	seen    []api.Seen
	handled map[asked]came
	full    map[asked]bool
	// count says how often what has happened.
	count map[string]int
}

// watches is a new world that is looked at.
func watches(t *testing.T, conf api.Conf, blocks int) *watch {
	t.Helper()
	v := &watch{w: made(t, conf, blocks), conf: conf, trees: []*tree.Tree{tree.New()}, handled: map[asked]came{}, full: map[asked]bool{}, count: map[string]int{}}
	v.seats, v.seen, v.epoch = make([]seat, conf.Clients+2), make([]api.Seen, conf.Clients), 1
	for c := range v.seats {
		v.seats[c].life = min(c, 1)
	}
	v.last = tells(v.w, conf.Clients)
	return v
}

// do does an event, and looks at what comes of it.
func (v *watch) do(t *testing.T, ev api.Event) api.Step {
	t.Helper()
	was := v.last
	letter, arrives := v.arriving(ev)
	home := v.atHome(ev)
	step := v.w.Do(ev)
	v.last = tells(v.w, v.conf.Clients)
	v.server(t, ev, step, was)
	if arrives && letter.To == 0 {
		v.mutated(t, letter, was)
	} else if len(v.last.History) != len(was.History) {
		t.Errorf("History has grown: %v", v.last.History)
	}
	if step.Client > 0 {
		v.client(t, ev, step, was, letter, home)
	}
	v.bounded(t)
	for c := range v.conf.Clients {
		v.isTrue(t, c+1)
	}
	if t.Failed() {
		t.Logf("at %+v: %+v", ev, step)
	}
	return step
}

// run does events, and tells their steps; with the first that is wrong it ends.
func (v *watch) run(t *testing.T, evs ...api.Event) []api.Step {
	t.Helper()
	var steps []api.Step
	for _, ev := range evs {
		if steps = append(steps, v.do(t, ev)); t.Failed() {
			t.FailNow()
		}
	}
	return steps
}

// calm lets the letters arrive, the first one first, till none is in flight.
func (v *watch) calm(t *testing.T) []api.Step {
	t.Helper()
	var steps []api.Step
	for len(v.last.Letters) > 0 {
		if steps = append(steps, v.run(t, deliver(0))...); len(steps) > 1000 {
			t.Fatal("it does not become calm")
		}
	}
	return steps
}

// does lets a client's call complete, with nothing lost, and is its answer.
func (v *watch) does(t *testing.T, client int, c api.Call) api.Answer {
	t.Helper()
	return completes(t, client, append(v.run(t, calls(client, c)), v.calm(t)...))
}

// completes is the answer of a client's call that has completed in one of these steps.
func completes(t *testing.T, client int, steps []api.Step) api.Answer {
	t.Helper()
	i := slices.IndexFunc(steps, func(s api.Step) bool { return s.Client == client && s.Done })
	if i < 0 {
		t.Fatalf("no call of client %d completes: %+v", client, steps)
	}
	return steps[i].Answer
}

// arriving is the letter that an event delivers.
func (v *watch) arriving(ev api.Event) (api.Letter, bool) {
	n := len(v.last.Letters)
	if ev.Kind != api.EvDeliver || n == 0 {
		return api.Letter{To: -1}, false
	}
	return v.last.Letters[(ev.N%n+n)%n], true
}

// server looks at the server: it has the tree of History (T4), and comes back, with a new epoch, when it has power.
func (v *watch) server(t *testing.T, ev api.Event, step api.Step, was told) {
	t.Helper()
	now := v.last
	if len(now.History) < len(was.History) || !slices.Equal(now.History[:len(was.History)], was.History) || len(now.History) > len(was.History)+1 {
		t.Errorf("History was %v, and is %v", was.History, now.History)
	}
	if len(now.History) > len(was.History) {
		next := v.trees[len(was.History)].Copy()
		if _, _, e := next.Apply(now.History[len(was.History)]); e != api.OK {
			t.Errorf("the last of %v: %d", now.History, e)
		}
		v.trees = append(v.trees, next)
	}
	switch {
	case ev.Kind == api.EvBoot && ev.N < 0 && !now.Up:
		t.Error("it has power, and is not up")
	case now.Up && !was.Up:
		if now.Epoch <= v.epoch {
			t.Errorf("epoch %d behind %d", now.Epoch, v.epoch)
		}
		v.count["epochs"]++
	case now.Up && now.Epoch != v.epoch, !now.Up && now.Epoch != 0:
		t.Errorf("epoch %d behind %d, up: %v", now.Epoch, v.epoch, now.Up)
	}
	v.epoch = max(v.epoch, now.Epoch)
	if at := len(v.trees) - 1; now.Up && (now.Version != at || !slices.Equal(now.Tree, v.trees[at].Dump())) {
		t.Errorf("version %d with %v, and History says %v", now.Version, now.Tree, v.trees[at].Dump())
	}
	if was.Up && !now.Up {
		v.count["falls"]++
	}
}

// mutated looks at a letter that has come to the server: the first time that a mutation is kept it is answered as the tree does, and no other time it is done (T3).
func (v *watch) mutated(t *testing.T, letter api.Letter, was told) {
	t.Helper()
	m, e := wire.Decode(letter.Bytes)
	if e != api.OK || m.Kind != api.MsgAsk {
		t.Errorf("%+v has come to the server", letter)
	}
	id := asked{m.Client, m.Life, m.Seq}
	_, _, seen, e := boot.Read(v.w.Disk(), v.conf.Clients)
	if e != api.OK {
		t.Errorf("the disk can't be read: %d", e)
		return
	}
	before := v.seen
	v.seen = seen
	if slices.Equal(seen, before) {
		if len(v.last.History) != len(was.History) {
			t.Errorf("%+v is done, and not kept", m)
		}
		if v.handled[id].version > 0 {
			v.count["once"]++
		}
		return
	}
	if _, kept := v.handled[id]; kept || v.full[id] || !v.last.Up || seen[m.Client-1].Life != m.Life || seen[m.Client-1].Seq != m.Seq {
		t.Errorf("%+v is kept: %+v behind %+v", m, seen, before)
	}
	_, _, want := v.trees[len(was.History)].Copy().Apply(m.Op)
	got := seen[m.Client-1].Err
	if got != want || len(v.last.History) != len(v.trees)-1 || want == api.OK && (v.last.Version != was.Version+1 || v.last.History[was.Version] != m.Op) {
		t.Errorf("%+v: %d, and the tree says %d; History %v", m.Op, got, want, v.last.History)
	}
	v.handled[id] = came{got, v.last.Version}
}

// known is what a client's cache knows, in a cache of its own.
func known(x ofClient) *dent.Cache {
	c := dent.New()
	for _, e := range x.Entries {
		c.Put(e)
	}
	for _, dir := range x.Whole {
		c.SetWhole(dir)
	}
	return c
}

// all is a cache that knows all of a tree.
func all(x *tree.Tree) *dent.Cache {
	c := dent.New()
	c.SetWhole(api.Root)
	for _, e := range x.Dump() {
		c.Put(e)
		c.SetWhole(e.Node.ID)
	}
	return c
}

func isRead(c api.Call) bool { return c.Kind >= api.CallLookup && c.Kind <= api.CallReaddir }

// walks tells whether a call is a read that has a path.
func walks(c api.Call) bool {
	_, _, e := name.Split(c.Path)
	return isRead(c) && e == api.OK
}

// goes is the walk of a read.
func goes(c *dent.Cache, call api.Call, links int) api.Out {
	return walk.Walk(c, nil, call.Path, call.Kind == api.CallLookup || call.Kind == api.CallReaddir, links)
}

// answers is what a tree answers to a read.
func answers(x *tree.Tree, c api.Call, links int) api.Answer {
	out := goes(all(x), c, links)
	answer := api.Answer{Err: out.Err, Version: x.Version()}
	switch {
	case out.Err != api.OK:
	case c.Kind == api.CallReaddir && out.Node.Kind != api.KindDir:
		answer.Err = api.ErrNotDir
	case c.Kind == api.CallReaddir:
		names, _ := x.List(out.Node.ID)
		for _, e := range names {
			answer.Names = append(answer.Names, e.Key.Name)
		}
	case c.Kind == api.CallReadlink && out.Node.Kind != api.KindLink:
		answer.Err = api.ErrNotLink
	default:
		answer.Node = out.Node
	}
	return answer
}

// atHome tells whether an event is a read of which all is cached.
func (v *watch) atHome(ev api.Event) bool {
	if ev.Kind != api.EvCall || ev.Client < 1 || ev.Client > v.conf.Clients || v.w.Busy(ev.Client) || !walks(ev.Call) {
		return false
	}
	c := known(v.last.Clients[ev.Client])
	out := goes(c, ev.Call, v.conf.Links)
	return !out.Need && (ev.Call.Kind != api.CallReaddir || out.Err != api.OK || out.Node.Kind != api.KindDir || c.Whole(out.Node.ID))
}

// client looks at a step of a client.
func (v *watch) client(t *testing.T, ev api.Event, step api.Step, was told, letter api.Letter, home bool) {
	t.Helper()
	s, now := &v.seats[step.Client], v.last.Clients[step.Client]
	if ev.Kind == api.EvCrash {
		*s = seat{life: s.life + 1}
		v.count["born"]++
	}
	// T2
	if step.Life != s.life || now.Life != s.life || step.Version != now.Seen || step.Version < s.version {
		t.Errorf("life %d, version %d behind life %d, version %d", step.Life, step.Version, s.life, s.version)
	}
	s.version = step.Version
	// T7
	if home && (!step.Done || step.Sent != 0) {
		t.Error("all is cached, and it does not complete")
	}
	if home {
		v.count["home"]++
	}
	v.repeated(t, s, ev, step)
	begins := ev.Kind == api.EvCall && !s.busy
	if begins {
		s.call, s.busy, s.least, s.out = ev.Call, true, was.Version, api.Msg{}
	}
	// What a client that is busy answers to another call is nothing of the one that goes on.
	if step.Done && (begins || ev.Kind != api.EvCall) {
		s.busy = false
		if ev.Kind != api.EvCancel {
			v.completed(t, s, step)
		}
		if ev.Kind != api.EvCancel && isRead(s.call) && v.stays(step.Client, was, letter) {
			s.again, s.answer = s.call, step.Answer
		}
	}
	if now.Busy != s.busy {
		t.Errorf("busy: %v, and so is %+v: %v", now.Busy, s.call, s.busy)
	}
	v.sent(s, ev, step, was)
}

// repeated looks at a read that has completed, and is called for once more (T8).
func (v *watch) repeated(t *testing.T, s *seat, ev api.Event, step api.Step) {
	t.Helper()
	switch {
	case ev.Kind == api.EvCall && s.again.Kind > 0 && ev.Call == s.again:
		if !step.Done || step.Sent != 0 || !likeAnswer(step.Answer, s.answer) {
			t.Errorf("it was %+v, and nothing has come since", s.answer)
		}
		v.count["again"]++
	case ev.Kind == api.EvCall, ev.Kind == api.EvDeliver:
		s.again = api.Call{}
	}
}

// completed looks at an answer.
func (v *watch) completed(t *testing.T, s *seat, step api.Step) {
	t.Helper()
	call, answer := s.call, step.Answer
	if answer.Version != step.Version {
		t.Errorf("version %d, and the client's is %d", answer.Version, step.Version)
	}
	id := asked{step.Client, step.Life, s.out.Seq}
	switch {
	case walks(call):
		// T1
		if want := answers(v.trees[answer.Version], call, v.conf.Links); !likeAnswer(answer, want) {
			t.Errorf("%+v: %+v, and the tree says %+v", call, answer, want)
		}
		v.count["reads"]++
		if len(answer.Names) > 0 {
			v.count["named"]++
		}
	case call.Kind == api.CallSync:
		// T2
		if answer.Err != api.OK || answer.Version < s.least {
			t.Errorf("%+v, and it was called at version %d", answer, s.least)
		}
		v.count["synced"]++
	case s.out.Op.Kind < api.OpCreate:
		// No mutation was asked, or the ask was lost in a full bag and seen by nobody.
		if call.Kind >= api.CallCreate && answer.Err == api.OK && s.out.Seq > 0 {
			t.Errorf("%+v: %+v", call, answer)
		}
	case answer.Err == api.ErrFull:
		if _, ok := v.handled[id]; ok {
			t.Errorf("%+v is ErrFull, and was kept", call)
		}
		v.full[id] = true
		v.count["full"]++
	default:
		// T3, T2
		got, ok := v.handled[id]
		if !ok || got.err != answer.Err || answer.Err == api.OK && answer.Version < got.version {
			t.Errorf("%+v: %+v, and it was %+v", call, answer, got)
		}
		if answer.Err == api.OK {
			v.count["done"]++
		} else {
			v.count["refused"]++
		}
	}
}

// stays tells whether nothing was evicted in the step of a client: none of what was there, or was told, is missing, or the limits are not reached.
func (v *watch) stays(client int, was told, letter api.Letter) bool {
	c := known(v.last.Clients[client])
	if c.Len() < v.conf.Dentries && c.Negatives() < v.conf.Negative {
		return true
	}
	here := was.Clients[client].Entries
	if letter.To == client {
		m, _ := wire.Decode(letter.Bytes)
		// What a message that was held has told is not seen here.
		if m.Kind != api.MsgReply {
			v.count["evicted"]++
			return false
		}
		here = append(slices.Clone(here), m.Entries...)
	}
	for _, e := range here {
		if _, ok := c.Get(e.Key); !ok {
			v.count["evicted"]++
			return false
		}
	}
	return true
}

// sent keeps the ask that a client has sent last.
func (v *watch) sent(s *seat, ev api.Event, step api.Step, was told) {
	taken := 0
	if ev.Kind == api.EvDeliver {
		taken = 1
	}
	letters := v.last.Letters
	if len(letters) != len(was.Letters)-taken+step.Sent {
		s.out = api.Msg{}
		return
	}
	for _, l := range letters[len(letters)-step.Sent:] {
		if m, _ := wire.Decode(l.Bytes); m.Op.Kind != api.OpAgain {
			s.out = m
		}
	}
}

// bounded fails if there is more than there may be (T6).
func (v *watch) bounded(t *testing.T) {
	t.Helper()
	for c, x := range v.last.Clients {
		if k := known(x); k.Len() > v.conf.Dentries || k.Negatives() > v.conf.Negative || x.Held > v.conf.Hold || len(x.Promises) > v.conf.Promises || len(x.Queue) > v.conf.Queue {
			t.Errorf("client %d: %+v; limits are %+v", c, x, v.conf)
		}
		for _, b := range x.Queue {
			if b.All {
				v.count["flushed"]++
			}
		}
	}
	if len(v.last.Letters) > api.MaxBag {
		t.Errorf("%d letters", len(v.last.Letters))
	}
}

// isTrue fails if what a client has cached is not so in the tree of its version (T5).
func (v *watch) isTrue(t *testing.T, client int) {
	t.Helper()
	c := v.last.Clients[client]
	x, k := v.trees[c.Seen], known(c)
	for _, entry := range c.Entries {
		if is, e := x.Look(entry.Key.Dir, entry.Key.Name); e == api.OK && is != entry {
			t.Errorf("client %d at version %d: %v is cached, and it is %v", client, c.Seen, entry, is)
		}
	}
	for _, dir := range c.Whole {
		if names, e := x.List(dir); e == api.OK && !slices.Equal(names, k.Names(dir)) {
			t.Errorf("client %d at version %d: directory %d has %v, and it is %v", client, c.Seen, dir, k.Names(dir), names)
		}
	}
}
