package call_test

import (
	"math/rand"
	"slices"
	"testing"

	"vista/api"
	"vista/block"
	"vista/call"
	"vista/dent"
	"vista/name"
	"vista/scroll"
	"vista/serve"
	"vista/tree"
	"vista/walk"
)

// P15.6

// resolved is where components lead to in a tree: `..` is the directory that the tree says a directory is in.
func resolved(x *tree.Tree, at api.Node, steps []string, dir, follow bool, left int) (api.Node, api.Errno) {
	if len(steps) == 0 {
		if dir && at.Kind != api.KindDir {
			return api.Node{}, api.ErrNotDir
		}
		return at, api.OK
	}
	if at.Kind != api.KindDir {
		return api.Node{}, api.ErrNotDir
	}
	step, rest := steps[0], steps[1:]
	if step == "." {
		return resolved(x, at, rest, dir, follow, left)
	}
	if step == ".." {
		return resolved(x, above(x, at), rest, dir, follow, left)
	}
	e, _ := x.Look(at.ID, step)
	if e.Neg {
		return api.Node{}, api.ErrNotFound
	}
	if e.Node.Kind != api.KindLink || len(rest) == 0 && !dir && !follow {
		return resolved(x, e.Node, rest, dir, follow, left)
	}
	if left == 0 {
		return api.Node{}, api.ErrLoop
	}
	ahead, whole, must, err := name.Target(e.Node.Target)
	if err != api.OK {
		return api.Node{}, err
	}
	if whole {
		at = root()
	}
	return resolved(x, at, slices.Concat(ahead, rest), dir || len(rest) == 0 && must, follow, left-1)
}

// above is the directory that a directory is in.
func above(x *tree.Tree, at api.Node) api.Node {
	if at.ID == api.Root {
		return root()
	}
	e, _ := x.Find(at.ID)
	if e.Key.Dir == api.Root {
		return root()
	}
	e, _ = x.Find(e.Key.Dir)
	return e.Node
}

// isRead tells whether a call is one that the tree can answer.
func isRead(c api.Call) bool {
	return c.Kind >= api.CallLookup && c.Kind <= api.CallReaddir
}

// read is what a tree answers to a call.
func read(x *tree.Tree, c api.Call, links int) api.Answer {
	steps, dir, e := name.Split(c.Path)
	if e != api.OK {
		return fails(e, x.Version())
	}
	n, e := resolved(x, root(), steps, dir, c.Kind == api.CallLookup || c.Kind == api.CallReaddir, links)
	switch {
	case e != api.OK:
		return fails(e, x.Version())
	case c.Kind == api.CallReadlink && n.Kind != api.KindLink:
		return fails(api.ErrNotLink, x.Version())
	case c.Kind == api.CallReaddir && n.Kind != api.KindDir:
		return fails(api.ErrNotDir, x.Version())
	case c.Kind != api.CallReaddir:
		return finds(n, x.Version())
	}
	answer := tells(x.Version())
	all, _ := x.List(n.ID)
	for _, entry := range all {
		answer.Names = append(answer.Names, entry.Key.Name)
	}
	return answer
}

// seat is a client, with the call that its user waits for.
type seat struct {
	c        *call.Client
	id, life int
	// call has the kind 0, if none goes on; least is the server's version when it was called, seq that of its last ask.
	call       api.Call
	least, seq int
	// version is the client's behind the last step.
	version int
}

// done is what the server did with a mutation.
type done struct {
	e       api.Errno
	version int
}

// sent names an ask.
type sent struct {
	client, life, seq int
}

// play is a server with its clients, and what is on the way between them.
type play struct {
	r       *rand.Rand
	conf    api.Conf
	s       *serve.Server
	journal *scroll.Scroll
	seats   []*seat
	letters []api.Msg
	// trees has the tree of each version, mutated what each mutation came to when it was handled first.
	trees   []*tree.Tree
	mutated map[sent]done
	// What happened how often.
	reads, home, calm, listed, synced, changed, evicted int
}

func newPlay(t *testing.T, r *rand.Rand) *play {
	t.Helper()
	d, _ := block.New(api.MaxBlocks)
	scroll.Format(d)
	journal, _, e := scroll.Open(d)
	if e != api.OK {
		t.Fatal(e)
	}
	p := &play{r: r, journal: journal, trees: []*tree.Tree{tree.New()}, mutated: map[sent]done{}}
	p.conf = api.Conf{Clients: 1 + r.Intn(3), Dentries: api.MaxDentries, Negative: api.MaxNegative, Links: r.Intn(4), Promises: 1 + r.Intn(12), Queue: 1 + r.Intn(6), Hold: r.Intn(4)}
	if r.Intn(2) == 0 {
		p.conf.Dentries, p.conf.Negative = 1+r.Intn(8), 1+r.Intn(3)
	}
	for id := range p.conf.Clients {
		p.seats = append(p.seats, nil)
		p.sits(t, id+1, 1)
	}
	p.starts(t, tree.New(), make([]api.Seen, p.conf.Clients), 1)
	return p
}

// sits puts a new client to its place.
func (p *play) sits(t *testing.T, id, life int) {
	t.Helper()
	c, e := call.New(id, life, p.conf)
	if e != api.OK {
		t.Fatal(e)
	}
	p.seats[id-1] = &seat{c: c, id: id, life: life}
}

func (p *play) starts(t *testing.T, x *tree.Tree, seen []api.Seen, epoch int) {
	t.Helper()
	s, e := serve.New(p.conf, p.journal, x, seen, epoch)
	if e != api.OK {
		t.Fatal(e)
	}
	p.s = s
}

// restarts is a new server that goes on from the old one's tree, under a new epoch.
func (p *play) restarts(t *testing.T) {
	t.Helper()
	var seen []api.Seen
	for id := range p.seats {
		seen = append(seen, p.s.Seen(id+1))
	}
	p.starts(t, p.s.Tree(), seen, p.s.Epoch()+1)
}

// asked is a made-up call.
func (p *play) asked() api.Call {
	c := api.Call{Kind: 1 + p.r.Intn(api.CallSync), Path: p.path(), Other: p.path(), Mode: p.r.Intn(9)}
	if p.r.Intn(2) == 0 {
		c.Kind = api.CallLookup + p.r.Intn(4)
	}
	return c
}

// path is a made-up path of few names.
func (p *play) path() string {
	path := ""
	for range 1 + p.r.Intn(3) {
		path += "/" + []string{"a", "b", "c", "a", "b", "..", "."}[p.r.Intn(7)]
	}
	if p.r.Intn(12) == 0 {
		path += "/"
	}
	return path
}

// known is what a client's cache knows, in a cache of its own.
func known(s *seat) *dent.Cache {
	x := dent.New()
	for _, e := range s.c.Entries() {
		x.Put(e)
	}
	for dir := range 2000 {
		if s.c.Whole(dir) {
			x.SetWhole(dir)
		}
	}
	return x
}

// atHome tells whether all that a read needs is cached.
func (p *play) atHome(s *seat, c api.Call) bool {
	x := known(s)
	out := walk.Walk(x, nil, c.Path, c.Kind == api.CallLookup || c.Kind == api.CallReaddir, p.conf.Links)
	return !out.Need && (c.Kind != api.CallReaddir || out.Err != api.OK || out.Node.Kind != api.KindDir || x.Whole(out.Node.ID))
}

// calls lets a client be called.
func (p *play) calls(t *testing.T, s *seat, c api.Call) {
	t.Helper()
	home := isRead(c) && p.atHome(s, c)
	s.call, s.least, s.seq = c, p.s.Version(), 0
	o := of(s.c.Start(c))
	if isRead(c) && (o.done != home || o.done == (len(o.out) > 0)) {
		t.Errorf("%+v, and all is cached: %v; %+v", c, home, o)
	}
	if home {
		p.home++
	}
	p.came(t, s, o)
}

// came looks at what a step of a client has come to.
func (p *play) came(t *testing.T, s *seat, o outcome) {
	t.Helper()
	p.letters = append(p.letters, o.out...)
	for _, m := range o.out {
		if m.Client != s.id || m.Life != s.life || m.Mark != s.c.Mark() || m.Kind != api.MsgAsk || m.Version != 0 || m.Err != api.OK || len(m.Entries)+len(m.Keys) > 0 {
			t.Errorf("client %d of life %d sends %+v", s.id, s.life, m)
		}
		s.seq = m.Seq
	}
	if o.done {
		c := s.call
		s.call = api.Call{}
		p.answered(t, s, c, o.answer)
	}
	if s.c.Version() < s.version || s.c.Busy() != (s.call.Kind != 0) {
		t.Errorf("version %d behind %d, busy %v", s.c.Version(), s.version, s.c.Busy())
	}
	s.version = s.c.Version()
	p.bounded(t, s)
	p.isTrue(t, s)
}

// answered looks at an answer.
func (p *play) answered(t *testing.T, s *seat, c api.Call, answer api.Answer) {
	t.Helper()
	if answer.Version != s.c.Version() {
		t.Errorf("%+v at version %d", answer, s.c.Version())
	}
	switch {
	case isRead(c):
		p.reads++
		if want := read(p.trees[answer.Version], c, p.conf.Links); !likeAnswer(answer, want) {
			t.Errorf("%+v: %+v, and the tree says %+v", c, answer, want)
		}
		if len(answer.Names) > 0 {
			p.listed++
		}
		p.calmly(t, s, c, answer)
	case c.Kind == api.CallSync:
		p.synced++
		if answer.Err != api.OK || answer.Version < s.least {
			t.Errorf("%+v, and it was called at version %d", answer, s.least)
		}
	default:
		// One that was answered without an ask was not handled.
		if d, ok := p.mutated[sent{s.id, s.life, s.seq}]; ok {
			p.changed++
			if answer.Err != d.e || answer.Err == api.OK && answer.Version < d.version {
				t.Errorf("%+v: %+v, and it was %+v", c, answer, d)
			}
		} else if answer.Err == api.OK {
			t.Errorf("%+v: %+v, and nobody did it", c, answer)
		}
	}
}

// calmly asks for a read that has completed once more: it is answered the same at once, if nothing had to go.
func (p *play) calmly(t *testing.T, s *seat, c api.Call, answer api.Answer) {
	t.Helper()
	if x := known(s); x.Len() >= p.conf.Dentries || x.Negatives() >= p.conf.Negative {
		// Where limits are reached, something may have gone.
		p.evicted++
		return
	}
	before := s.c.Entries()
	for range 2 {
		of(s.c.Start(c)).ends(t, answer)
	}
	if !slices.Equal(s.c.Entries(), before) {
		t.Errorf("%v, behind %v", s.c.Entries(), before)
	}
	p.calm++
}

// bounded fails if a client has more than it may have.
func (p *play) bounded(t *testing.T, s *seat) {
	t.Helper()
	if x := known(s); x.Len() > p.conf.Dentries || x.Negatives() > p.conf.Negative || s.c.Held() > p.conf.Hold {
		t.Errorf("%d entries, %d of them Neg, %d held; limits are %+v", x.Len(), x.Negatives(), s.c.Held(), p.conf)
	}
}

// isTrue fails if what a client has cached is not so in the tree of its version.
func (p *play) isTrue(t *testing.T, s *seat) {
	t.Helper()
	x, cached := p.trees[s.c.Version()], s.c.Entries()
	for _, entry := range cached {
		if is, e := x.Look(entry.Key.Dir, entry.Key.Name); e == api.OK && is != entry {
			t.Errorf("at version %d %v is cached, and it is %v", s.c.Version(), entry, is)
		}
	}
	for _, dir := range append(x.Dump(), api.Entry{Node: root()}) {
		if !s.c.Whole(dir.Node.ID) {
			continue
		}
		all, _ := x.List(dir.Node.ID)
		for _, entry := range all {
			if !slices.Contains(cached, entry) {
				t.Errorf("at version %d there is %v in a whole directory", s.c.Version(), entry)
			}
		}
	}
}

// arrives brings a message to whom it is for.
func (p *play) arrives(t *testing.T, m api.Msg) {
	t.Helper()
	if m.Kind != api.MsgAsk {
		s := p.seats[m.Client-1]
		p.came(t, s, of(s.c.Take(m)))
		return
	}
	before := p.s.Seen(m.Client)
	out, e := p.s.Handle(m)
	if e != api.OK {
		t.Fatal(e)
	}
	p.letters = append(p.letters, out...)
	if p.s.Version() == len(p.trees) {
		p.trees = append(p.trees, p.s.Tree())
	}
	if seen := p.s.Seen(m.Client); seen != before {
		p.mutated[sent{m.Client, m.Life, m.Seq}] = done{seen.Err, p.s.Version()}
	}
}

// step lets something happen.
func (p *play) step(t *testing.T) {
	t.Helper()
	s := p.seats[p.r.Intn(len(p.seats))]
	// With many on the way nobody sends more: else all that arrives were old.
	if n := len(p.letters); n > 12 || n > 0 && p.r.Intn(4) > 0 {
		i := p.r.Intn(min(n, 6))
		m := p.letters[i]
		chance := p.r.Intn(12)
		if chance != 0 {
			p.letters = slices.Delete(p.letters, i, i+1)
		}
		if chance != 1 {
			p.arrives(t, m)
		}
		return
	}
	switch p.r.Intn(60) {
	case 0:
		p.restarts(t)
	case 1:
		p.sits(t, s.id, s.life+1)
	case 2:
		if done, answer := s.c.Cancel(); done != (s.call.Kind != 0) || done && !likeAnswer(answer, fails(api.ErrCancelled, s.c.Version())) {
			t.Errorf("Cancel: %v, %v", done, answer)
		}
		s.call = api.Call{}
	default:
		if s.call.Kind == 0 {
			p.calls(t, s, p.asked())
			return
		}
		of(s.c.Start(p.asked())).ends(t, fails(api.ErrBusy, s.c.Version()))
		p.letters = append(p.letters, s.c.Tick()...)
	}
}

// Clients beside a server, on a network that loses, doubles and turns round, with restarts and crashes: each read answers as the tree of its version does, what is cached is so in it, and all limits are kept to.
func TestClientsOfAServer(t *testing.T) {
	var sum play
	for seed := range 250 {
		p := newPlay(t, rand.New(rand.NewSource(int64(seed))))
		for range 1500 {
			p.step(t)
			if t.Failed() {
				t.Fatalf("at the seed %d", seed)
			}
		}
		sum.reads, sum.home, sum.calm, sum.listed = sum.reads+p.reads, sum.home+p.home, sum.calm+p.calm, sum.listed+p.listed
		sum.synced, sum.changed, sum.evicted = sum.synced+p.synced, sum.changed+p.changed, sum.evicted+p.evicted
	}
	t.Logf("%d reads, %d at home, %d again, %d with names, %d at a limit, %d syncs, %d mutations", sum.reads, sum.home, sum.calm, sum.listed, sum.evicted, sum.synced, sum.changed)
	if sum.reads < 10000 || sum.home < 3000 || sum.calm < 3000 || sum.listed < 1000 || sum.evicted < 1000 || sum.synced < 1000 || sum.changed < 5000 {
		t.Error("that is too little")
	}
}

// With nothing lost, nobody else and room enough, every call completes, and asks for nothing often: promises that make room for others may be asked for again.
func TestCallsComplete(t *testing.T) {
	asked := 0
	for seed := range 500 {
		p := newPlay(t, rand.New(rand.NewSource(int64(seed))))
		// With few promises, or with little room in the cache, the keys that one call needs may push one another out for ever.
		if p.conf.Promises < 9 || p.conf.Dentries < api.MaxDentries {
			continue
		}
		for range 200 {
			s := p.seats[p.r.Intn(len(p.seats))]
			p.calls(t, s, p.asked())
			asks := map[api.Op]int{}
			for len(p.letters) > 0 {
				m := p.letters[0]
				p.letters = p.letters[1:]
				if m.Kind == api.MsgAsk && m.Mark != 0 {
					asks[m.Op]++
					asked++
				}
				if p.arrives(t, m); asks[m.Op] > 3 {
					t.Fatalf("seed %d: %+v asks %v", seed, s.call, asks)
				}
			}
			if s.c.Busy() || t.Failed() {
				t.Fatalf("seed %d: %+v goes on: %v", seed, s.call, s.c.Busy())
			}
		}
	}
	if asked < 3000 {
		t.Errorf("%d were asked", asked)
	}
}
