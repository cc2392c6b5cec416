package serve_test

import (
	"fmt"
	"maps"
	"math/rand"
	"slices"
	"testing"

	"vista/api"
	"vista/block"
	"vista/scroll"
	"vista/serve"
	"vista/tree"
)

// P9.4

// reader is a client: what it was told and has not forgotten, and how far it has come in its stream of breaks.
type reader struct {
	life, seq int
	mark      complex128
	version   int
	// entries are what it was told, whole counts the directories of which it knows all names.
	entries map[api.Key]api.Entry
	whole   map[int]int
	// asked is its last ask; all of its life are kept to be sent again.
	asked api.Msg
	sent  []api.Msg
}

func (r *reader) forgets() {
	r.entries, r.whole = map[api.Key]api.Entry{}, map[int]int{}
}

func (r *reader) crashes() {
	*r = reader{life: r.life + 1}
	r.forgets()
}

// takes a message that has arrived.
func (r *reader) takes(t *testing.T, m api.Msg) {
	t.Helper()
	if m.Life != r.life || real(m.Mark) < real(r.mark) {
		return
	}
	if real(m.Mark) > real(r.mark) {
		r.mark = complex(real(m.Mark), 0)
		r.forgets()
	}
	n, k := imag(m.Mark), imag(r.mark)
	switch {
	case m.Kind == api.MsgFlush && n > k:
		r.forgets()
		r.applied(m)
	case m.Kind == api.MsgBreak && n == k+1:
		for _, broken := range m.Keys {
			r.breaks(broken)
		}
		r.applied(m)
	case m.Kind == api.MsgReply && m.Seq == r.asked.Seq && n == k:
		r.uses(m)
	case m.Kind == api.MsgReply && n < k:
		t.Errorf("a reply at %v behind %v", m.Mark, r.mark)
	}
}

func (r *reader) applied(m api.Msg) {
	r.mark, r.version = m.Mark, max(r.version, m.Version)
}

func (r *reader) breaks(broken api.Key) {
	delete(r.whole, broken.Dir)
	maps.DeleteFunc(r.entries, func(k api.Key, _ api.Entry) bool {
		return k == broken || broken.Name == "" && k.Dir == broken.Dir
	})
}

func (r *reader) uses(m api.Msg) {
	r.version = max(r.version, m.Version)
	for _, entry := range m.Entries {
		r.entries[entry.Key] = entry
	}
	if op := r.asked.Op; op.Kind == api.OpList && m.Err == api.OK {
		r.whole[op.Dir]++
	}
}

// knows fails if what a reader knows is not so in the tree of its version.
func (r *reader) knows(t *testing.T, trees []*tree.Tree) {
	t.Helper()
	at := trees[r.version]
	for k, entry := range r.entries {
		if is, e := at.Look(k.Dir, k.Name); e == api.OK && is != entry {
			t.Errorf("at version %d %v is known, and it is %v", r.version, entry, is)
		}
	}
	for in := range r.whole {
		all, _ := at.List(in)
		for _, entry := range all {
			if r.entries[entry.Key] != entry {
				t.Errorf("at version %d there is %v in a whole directory", r.version, entry)
			}
		}
	}
}

// promised fails if a reader that has applied all breaks knows more than it was promised.
func (r *reader) promised(t *testing.T, s *serve.Server, client int) {
	t.Helper()
	if r.mark != s.Mark(client) {
		return
	}
	promises := s.Promises(client)
	for k := range r.entries {
		if !slices.Contains(promises, k) && !slices.Contains(promises, key(k.Dir, "")) {
			t.Errorf("client %d knows %v, and was promised %v", client, k, promises)
		}
	}
	for in := range r.whole {
		if !slices.Contains(promises, key(in, "")) {
			t.Errorf("client %d knows all of %d, and was promised %v", client, in, promises)
		}
	}
}

// handled is a mutation as it is told apart from others.
type handled struct{ client, life, seq int }

// met is what a message is, to be counted.
type met struct {
	kind int
	e    api.Errno
}

// play is a server with a model and a tree beside it, and its clients.
type play struct {
	conf    api.Conf
	s       *serve.Server
	d       *block.Disk
	m       *model
	readers []*reader
	// beside is the tree on which what was answered with OK is done, trees are its versions.
	beside *tree.Tree
	trees  []*tree.Tree
	// first are the first answers to mutations, made how many breaks each client was sent in its session, met what was sent.
	first map[handled]api.Errno
	made  []int
	met   map[met]int
	// arrives tells whether a message does, behind how many breaks fewer than it has applied a client acknowledges.
	arrives func() bool
	behind  func() int
}

func newPlay(t *testing.T, conf api.Conf, half int) *play {
	t.Helper()
	s, d := served(t, conf, 2*half+1)
	begin := state{tree: tree.New(), seen: make([]api.Seen, conf.Clients)}
	p := &play{conf: conf, s: s, d: d, m: newModel(conf, half, 1, begin, nil), beside: tree.New(), trees: []*tree.Tree{tree.New()}, first: map[handled]api.Errno{}}
	p.arrives, p.behind = func() bool { return true }, func() int { return 0 }
	p.made, p.met = make([]int, conf.Clients+1), map[met]int{}
	for range conf.Clients + 1 {
		r := &reader{}
		r.crashes()
		p.readers = append(p.readers, r)
	}
	return p
}

// asks sends a client's next ask.
func (p *play) asks(t *testing.T, client int, op api.Op) {
	t.Helper()
	r := p.readers[client]
	if op.Kind != api.OpAgain {
		r.seq++
	}
	m := complex(real(r.mark), max(imag(r.mark)-float64(p.behind()), 0))
	a := ask(client, r.life, max(r.seq, 1), m, op)
	if op.Kind != api.OpAgain {
		r.asked = a
	}
	r.sent = append(r.sent, a)
	p.handle(t, a)
}

// repeats sends an ask of a client's life again.
func (p *play) repeats(t *testing.T, client, which int) {
	t.Helper()
	r := p.readers[client]
	if len(r.sent) > 0 {
		p.handle(t, r.sent[len(r.sent)-1-which%len(r.sent)])
	}
}

func (p *play) handle(t *testing.T, a api.Msg) {
	t.Helper()
	before := p.m.lives[a.Client]
	got, e := p.s.Handle(a)
	if e != api.OK {
		t.Fatalf("%v: %d", a, e)
	}
	answers(t, fmt.Sprint(a), got, p.m.handle(a))
	p.m.agrees(t, p)
	if p.m.lives[a.Client] != before {
		p.made[a.Client] = 0
	}
	if a.Op.Kind != api.OpAgain {
		p.counts(t, got)
	}
	p.bounded(t)
	p.follows(t, a, got)
	for _, m := range got {
		if m.Client == a.Client && m.Kind == api.MsgReply && (m.Life != a.Life || m.Seq != a.Seq) {
			t.Errorf("%v is answered by %v", a, m)
		}
		p.met[met{m.Kind, m.Err}]++
		if p.arrives() {
			p.readers[m.Client].takes(t, m)
		}
	}
	for client, r := range p.readers[1:] {
		r.knows(t, p.trees)
		r.promised(t, p.s, client+1)
	}
}

// counts fails if breaks are not numbered one by one, or a reply is not behind all of them.
func (p *play) counts(t *testing.T, got []api.Msg) {
	t.Helper()
	for _, m := range got {
		if m.Kind != api.MsgReply {
			p.made[m.Client]++
		}
		if int(imag(m.Mark)) != p.made[m.Client] || int(real(m.Mark)) != p.s.Epoch() {
			t.Errorf("%v behind %d breaks", m, p.made[m.Client])
		}
	}
}

func (p *play) bounded(t *testing.T) {
	t.Helper()
	for client := 1; client <= p.conf.Clients; client++ {
		if len(p.s.Promises(client)) > p.conf.Promises || len(p.s.Queue(client)) > p.conf.Queue {
			t.Errorf("client %d: a limit is passed: %v, %v", client, p.s.Promises(client), p.s.Queue(client))
		}
	}
}

// follows holds what an ask was answered against the tree beside.
func (p *play) follows(t *testing.T, a api.Msg, got []api.Msg) {
	t.Helper()
	if len(got) > 0 && got[len(got)-1].Kind == api.MsgReply && got[len(got)-1].Err != api.ErrEpoch {
		last := got[len(got)-1]
		switch kind := a.Op.Kind; {
		case kind == api.OpLook:
			entry, e := p.beside.Look(a.Op.Dir, a.Op.Name)
			p.answered(t, last, e, entry)
		case kind == api.OpList:
			entries, e := p.beside.List(a.Op.Dir)
			p.answered(t, last, e, entries...)
		case kind >= api.OpCreate:
			p.mutated(t, a, last)
		}
	}
	if p.s.Version() != p.beside.Version() || p.s.Tree().Next() != p.beside.Next() || !slices.Equal(p.s.Tree().Dump(), p.beside.Dump()) {
		t.Errorf("behind %v the tree is %v, and beside it %v", a, p.s.Tree().Dump(), p.beside.Dump())
	}
}

// answered fails if a read is answered otherwise than the tree does.
func (p *play) answered(t *testing.T, m api.Msg, e api.Errno, entries ...api.Entry) {
	t.Helper()
	if m.Err == api.ErrBusy && len(m.Entries) == 0 {
		return
	}
	if e != api.OK {
		entries = nil
	}
	if m.Err != e || !slices.Equal(m.Entries, entries) || m.Version != p.beside.Version() {
		t.Errorf("%v, not %d, %v", m, e, entries)
	}
}

// mutated does a mutation beside that was answered for the first time; another time it must be answered the same.
func (p *play) mutated(t *testing.T, a, m api.Msg) {
	t.Helper()
	this := handled{a.Client, a.Life, a.Seq}
	if e, ok := p.first[this]; ok {
		if m.Err != e || len(m.Entries) > 0 {
			t.Errorf("once more: %v, not %d", m, e)
		}
		return
	}
	p.first[this] = m.Err
	if m.Err == api.ErrFull {
		return
	}
	entries, _, e := p.beside.Apply(a.Op)
	if e == api.OK {
		p.trees = append(p.trees, p.beside.Copy())
	}
	if e != m.Err || m.Version != p.beside.Version() {
		t.Errorf("%v: %v, not %d", a, m, e)
	}
	for _, entry := range m.Entries {
		if !slices.Contains(entries, entry) {
			t.Errorf("%v: %v is told, and not one of %v", a, entry, entries)
		}
	}
}

// restarts lets a server of the next epoch begin with what the journal says.
func (p *play) restarts(t *testing.T) {
	t.Helper()
	back := p.kept(t)
	j, _, _ := scroll.Open(p.d)
	s, e := serve.New(p.conf, j, back.tree, back.seen, p.s.Epoch()+1)
	if e != api.OK {
		t.Fatalf("New: %d", e)
	}
	p.s = s
	p.m = newModel(p.conf, p.m.half, s.Epoch(), back, p.m.journal)
	clear(p.made)
	// What could not be kept is forgotten with its session.
	maps.DeleteFunc(p.first, func(_ handled, e api.Errno) bool { return e == api.ErrFull })
}

// kept fails if the journal does not say what was answered.
func (p *play) kept(t *testing.T) state {
	t.Helper()
	back := recovered(t, p.d, state{tree: tree.New(), seen: make([]api.Seen, p.conf.Clients)})
	same(t, "the journal", back, stateOf(p.s, p.conf.Clients))
	if got := notes(t, p.d); !slices.Equal(got, p.m.journal) {
		t.Errorf("the journal is\n%+v\nnot\n%+v", got, p.m.journal)
	}
	return back
}

// kinds is how many kinds of steps doStep knows.
const kinds = 12

func doStep(t *testing.T, p *play, kind int) {
	t.Helper()
	switch kind {
	case 0:
		p.asks(t, 1, look(1, "a"))
	case 1:
		p.asks(t, 1, look(1, "b"))
	case 2:
		p.asks(t, 1, list(1))
	case 3:
		p.asks(t, 1, mkdir(1, "a"))
	case 4:
		p.asks(t, 1, rename(1, "a", 1, "b"))
	case 5:
		p.asks(t, 2, mkdir(1, "a"))
	case 6:
		p.asks(t, 2, rmdir(1, "a"))
	case 7:
		p.asks(t, 2, list(1))
	case 8:
		p.repeats(t, 1, 0)
	case 9:
		p.repeats(t, 2, 0)
	case 10:
		p.readers[1].crashes()
		p.asks(t, 1, again())
	case 11:
		p.asks(t, 1, again())
	}
}

func TestAllShortScripts(t *testing.T) {
	const steps = 4
	for script := range kinds * kinds * kinds * kinds {
		conf := limits()
		conf.Promises, conf.Queue = 1+script%2, 1
		p := newPlay(t, conf, 5)
		// Both know the epoch.
		p.asks(t, 1, syncing())
		p.asks(t, 2, syncing())
		left := script
		for range steps {
			doStep(t, p, left%kinds)
			left /= kinds
		}
		p.kept(t)
		if t.Failed() {
			t.Fatalf("at the script %d", script)
		}
	}
}

// anyOp is an op of few names, so that much is met again.
func anyOp(r *rand.Rand) api.Op {
	names := []string{"a", "b", "c", "a", "b", "", "..", "too long for a name"}
	op := api.Op{Kind: api.OpLook + r.Intn(api.OpSetattr+1), Dir: 1 + r.Intn(4), Name: names[r.Intn(5)], To: 1 + r.Intn(4), New: names[r.Intn(5)], Mode: r.Intn(8), Target: "b/a"}
	if r.Intn(12) == 0 {
		op.Name, op.Dir = names[r.Intn(len(names))], r.Intn(12)
	}
	if r.Intn(12) == 0 {
		op.Target, op.Mode = target(r.Intn(api.MaxPath+2)), r.Intn(1000)
	}
	if op.Kind == api.OpAgain && r.Intn(3) > 0 {
		op.Kind = api.OpMkdir
	}
	return op
}

// noise sends a client's message as it should not be.
func (p *play) noise(t *testing.T, r *rand.Rand, client int) {
	t.Helper()
	reader := p.readers[client]
	a := ask(client, reader.life, reader.seq+r.Intn(3)-1, reader.mark, again())
	switch r.Intn(6) {
	case 0:
		a.Client = []int{-1, 0, p.conf.Clients + 1}[r.Intn(3)]
	case 1:
		a.Life -= 1 + r.Intn(3)
	case 2:
		a.Kind = r.Intn(6)
	case 3:
		a.Mark += []complex128{0.5, 1, -1, 1i, -1i, 7 + 7i}[r.Intn(6)]
	case 4:
		a.Op = api.Op{Kind: 12 + r.Intn(9)}
	case 5:
		a.Mark = complex(real(a.Mark), float64(r.Intn(1+int(imag(a.Mark)))))
	}
	p.handle(t, a)
}

func (p *play) anyStep(t *testing.T, r *rand.Rand) {
	t.Helper()
	client := 1 + r.Intn(p.conf.Clients)
	switch n := r.Intn(100); {
	case n < 70:
		p.asks(t, client, anyOp(r))
	case n < 80:
		p.repeats(t, client, r.Intn(3))
	case n < 88:
		p.asks(t, client, again())
	case n < 95:
		p.noise(t, r, client)
	case n < 98:
		p.readers[client].crashes()
	default:
		p.restarts(t)
	}
}

func TestManyScripts(t *testing.T) {
	all := map[met]int{}
	for seed := range 600 {
		r := rand.New(rand.NewSource(int64(seed)))
		conf := wide()
		conf.Clients, conf.Promises, conf.Queue = 1+r.Intn(4), 1+r.Intn(3), 1+r.Intn(3)
		if seed%4 == 0 {
			conf.Promises, conf.Queue = 1+r.Intn(api.MaxPromises), 1+r.Intn(api.MaxQueue)
		}
		p := newPlay(t, conf, 4+r.Intn(30))
		lost := r.Intn(4)
		p.arrives = func() bool { return r.Intn(10) >= lost }
		p.behind = func() int { return r.Intn(3) }
		for range 150 {
			p.anyStep(t, r)
		}
		p.kept(t)
		if t.Failed() {
			t.Fatalf("at the seed %d", seed)
		}
		for what, n := range p.met {
			all[what] += n
		}
	}
	// What is never met is not tested.
	for _, what := range []met{
		{api.MsgBreak, api.OK}, {api.MsgFlush, api.OK}, {api.MsgReply, api.OK}, {api.MsgReply, api.ErrEpoch}, {api.MsgReply, api.ErrBusy}, {api.MsgReply, api.ErrFull},
		{api.MsgReply, api.ErrStale}, {api.MsgReply, api.ErrNotDir}, {api.MsgReply, api.ErrExist}, {api.MsgReply, api.ErrNotEmpty}, {api.MsgReply, api.ErrInside},
	} {
		if all[what] < 50 {
			t.Errorf("%v is met %d times", what, all[what])
		}
	}
}

// A tree as great as can be, and a directory of all its names, go through a journal that is great enough.
func TestGreatTree(t *testing.T) {
	conf := wide()
	p := newPlay(t, conf, 60)
	p.asks(t, 1, syncing())
	for i := range api.MaxNodes {
		p.asks(t, 1, mkdir(1, fmt.Sprintf("name %d", i)))
	}
	if p.beside.Count() != api.MaxNodes {
		t.Errorf("%d nodes", p.beside.Count())
	}
	p.asks(t, 2, syncing())
	p.asks(t, 2, list(1))
	if len(p.readers[2].entries) != api.MaxNodes-1 {
		t.Errorf("client 2 knows of %d", len(p.readers[2].entries))
	}
	for i := range 100 {
		p.asks(t, 3, rename(1, fmt.Sprintf("name %d", i%47), 1, fmt.Sprintf("name %d", (i+9)%47)))
	}
	p.kept(t)
}

func TestServersHaveNothingInCommon(t *testing.T) {
	one, _ := served(t, limits(), 99)
	other, d := served(t, limits(), 99)
	before := tells(other, d)
	replies(t, one, ask(1, 1, 1, 1, mkdir(1, "a")), 1, 1, api.OK, dir(2, 1, "a"))
	replies(t, one, ask(2, 1, 1, 1, list(1)), 1, 1, api.OK, dir(2, 1, "a"))
	if tells(other, d) != before {
		t.Error("the other one has changed")
	}
	replies(t, other, ask(1, 1, 1, 1, look(1, "a")), 1, 0, api.OK, none(1, "a"))
}

// The same asks are answered the same, whatever happens elsewhere.
func TestTheSameAgain(t *testing.T) {
	script := func() (text string) {
		r := rand.New(rand.NewSource(5))
		s, d := served(t, limits(), 33)
		for i := range 300 {
			got, e := s.Handle(ask(1+i%2, 1, 1+i, 1, anyOp(r)))
			text += fmt.Sprint(got, e)
		}
		return text + tells(s, d)
	}
	if script() != script() {
		t.Error("the same asks, and other answers")
	}
}
