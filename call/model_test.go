package call_test

import (
	"math/rand"
	"slices"
	"testing"

	"vista/api"
	"vista/call"
	"vista/dent"
	"vista/name"
	"vista/prune"
	"vista/tide"
	"vista/walk"
)

// model is a client as the chapter tells it, sentence by sentence, on the layers that it stands on.
type model struct {
	id, life int
	conf     api.Conf
	tide     *tide.Tide
	cache    *dent.Cache
	seq      int
	// call is the one that goes on, of kind 0 if there is none; ask is the one that is out, of kind 0 if there is none.
	call api.Call
	ask  api.Msg
}

func newModel(id, life int, conf api.Conf) *model {
	x, _ := tide.New(id, life, conf.Hold)
	return &model{id: id, life: life, conf: conf, tide: x, cache: dent.New()}
}

// ends is the answer, with the version of now.
func (x *model) ends(answer api.Answer) outcome {
	x.call, x.ask = api.Call{}, api.Msg{}
	answer.Version = x.tide.Version()
	return outcome{done: true, answer: answer}
}

func (x *model) start(call api.Call) outcome {
	if x.call.Kind != 0 {
		return outcome{done: true, answer: fails(api.ErrBusy, x.tide.Version())}
	}
	if e := wrong(call); e != api.OK {
		return outcome{done: true, answer: fails(e, x.tide.Version())}
	}
	x.call = call
	return x.drive(nil, false)
}

// wrong is what P15.2 finds wrong with a call.
func wrong(call api.Call) api.Errno {
	var e api.Errno
	switch call.Kind {
	default:
		return api.ErrArg
	case api.CallSync:
	case api.CallLookup, api.CallStat, api.CallReadlink, api.CallReaddir:
		_, _, e = name.Split(call.Path)
	case api.CallCreate, api.CallMkdir, api.CallSetattr:
		if _, _, e = name.Parent(call.Path); e == api.OK && (call.Mode < 0 || call.Mode > api.MaxMode) {
			e = api.ErrArg
		}
	case api.CallSymlink:
		if _, _, e = name.Parent(call.Path); e == api.OK {
			_, _, _, e = name.Target(call.Other)
		}
	case api.CallUnlink, api.CallRmdir:
		_, _, e = name.Parent(call.Path)
	case api.CallRename:
		if _, _, e = name.Parent(call.Path); e == api.OK {
			_, _, e = name.Parent(call.Other)
		}
	}
	return e
}

// drive drives the call with fresh entries; listed says that they are those of a whole reply to the ask, an OpList.
func (x *model) drive(fresh []api.Entry, listed bool) outcome {
	switch x.call.Kind {
	case api.CallSync:
		return x.asks(syncs())
	case api.CallLookup, api.CallStat, api.CallReadlink, api.CallReaddir:
		follow := x.call.Kind == api.CallLookup || x.call.Kind == api.CallReaddir
		out := walk.Walk(x.cache, fresh, x.call.Path, follow, x.conf.Links)
		if o, stopped := x.stopped(out); stopped {
			return o
		}
		return x.read(out.Node, fresh, listed)
	}
	steps, last, _ := name.Parent(x.call.Path)
	out := walk.Steps(x.cache, fresh, steps, true, true, x.conf.Links)
	if o, stopped := x.stopped(out); stopped {
		return o
	}
	op := api.Op{Dir: out.Node.ID, Name: last}
	switch x.call.Kind {
	case api.CallCreate:
		op.Kind, op.Mode = api.OpCreate, x.call.Mode
	case api.CallMkdir:
		op.Kind, op.Mode = api.OpMkdir, x.call.Mode
	case api.CallSetattr:
		op.Kind, op.Mode = api.OpSetattr, x.call.Mode
	case api.CallSymlink:
		op.Kind, op.Target = api.OpSymlink, x.call.Other
	case api.CallUnlink:
		op.Kind = api.OpUnlink
	case api.CallRmdir:
		op.Kind = api.OpRmdir
	case api.CallRename:
		steps, last, _ := name.Parent(x.call.Other)
		out := walk.Steps(x.cache, fresh, steps, true, true, x.conf.Links)
		if o, stopped := x.stopped(out); stopped {
			return o
		}
		op.Kind, op.To, op.New = api.OpRename, out.Node.ID, last
	}
	return x.asks(op)
}

// stopped uses what a walk used, and tells what comes of it where the walk does not come to a node.
func (x *model) stopped(out api.Out) (outcome, bool) {
	for _, k := range out.Used {
		x.cache.Use(k)
	}
	if out.Need {
		return x.asks(look(out.Key.Dir, out.Key.Name)), true
	}
	if out.Err != api.OK {
		return x.ends(api.Answer{Err: out.Err}), true
	}
	return outcome{}, false
}

func (x *model) read(n api.Node, fresh []api.Entry, listed bool) outcome {
	if x.call.Kind == api.CallReadlink && n.Kind != api.KindLink {
		return x.ends(api.Answer{Err: api.ErrNotLink})
	}
	if x.call.Kind != api.CallReaddir {
		return x.ends(api.Answer{Node: n})
	}
	if n.Kind != api.KindDir {
		return x.ends(api.Answer{Err: api.ErrNotDir})
	}
	from := fresh
	if x.cache.Whole(n.ID) {
		from = x.cache.Names(n.ID)
	} else if !listed || x.ask.Op.Dir != n.ID {
		return x.asks(list(n.ID))
	}
	var names []string
	for _, e := range from {
		names = append(names, e.Key.Name)
	}
	return x.ends(api.Answer{Names: names})
}

func (x *model) asks(op api.Op) outcome {
	x.seq++
	x.tide.Ask(x.seq)
	x.ask = api.Msg{Kind: api.MsgAsk, Client: x.id, Life: x.life, Seq: x.seq, Mark: x.tide.Mark(), Op: op}
	return outcome{out: []api.Msg{x.ask}}
}

// once is the ask that is out, once more.
func (x *model) once() api.Msg {
	m := x.ask
	m.Mark = x.tide.Mark()
	return m
}

func (x *model) take(m api.Msg) outcome {
	var all outcome
	for _, act := range x.tide.Take(m) {
		if act.All {
			x.cache.Clear()
		}
		x.cache.Cut(act.Keys)
		if act.Again {
			all.out = append(all.out, x.once())
		}
		if act.Reply {
			next := x.replied(act)
			all = outcome{append(all.out, next.out...), next.done, next.answer}
		}
	}
	return all
}

func (x *model) replied(act api.Act) outcome {
	op := x.ask.Op
	if op.Kind == api.OpSync {
		return x.ends(api.Answer{Err: act.Err})
	}
	entries := act.Entries
	if act.Err != api.OK {
		entries = nil
	}
	for _, e := range entries {
		x.cache.Put(e)
	}
	listed := op.Kind == api.OpList && act.Err == api.OK && act.Whole
	if listed {
		x.cache.SetWhole(op.Dir)
	}
	prune.Trim(x.cache, x.conf.Dentries, x.conf.Negative)
	if op.Kind == api.OpLook || op.Kind == api.OpList {
		return x.drive(entries, listed)
	}
	return x.ends(api.Answer{Err: act.Err})
}

func (x *model) tick() []api.Msg {
	var out []api.Msg
	if real(x.tide.Mark()) >= 1 {
		out = append(out, api.Msg{Kind: api.MsgAsk, Client: x.id, Life: x.life, Seq: 1, Mark: x.tide.Mark(), Op: again()})
	}
	if x.ask.Kind != 0 {
		out = append(out, x.once())
	}
	return out
}

func (x *model) cancel() (bool, api.Answer) {
	if x.call.Kind == 0 {
		return false, api.Answer{}
	}
	x.tide.Ask(0)
	return true, x.ends(api.Answer{Err: api.ErrCancelled}).answer
}

// pair is a client with its model.
type pair struct {
	c *call.Client
	m *model
	// version is that of the last answer, or of the client behind the last step.
	version int
}

func newPair(t *testing.T, id, life int, conf api.Conf) *pair {
	t.Helper()
	c, e := call.New(id, life, conf)
	if e != api.OK {
		t.Fatalf("New(%d, %d, %+v): %d", id, life, conf, e)
	}
	return &pair{c: c, m: newModel(id, life, conf)}
}

func (p *pair) start(t *testing.T, call api.Call) outcome {
	t.Helper()
	got, want := of(p.c.Start(call)), p.m.start(call)
	if !got.like(want) {
		t.Errorf("Start(%+v): %+v, not %+v", call, got, want)
	}
	p.agrees(t)
	return got
}

func (p *pair) take(t *testing.T, m api.Msg) outcome {
	t.Helper()
	got, want := of(p.c.Take(m)), p.m.take(m)
	if !got.like(want) {
		t.Errorf("Take(%+v): %+v, not %+v", m, got, want)
	}
	p.agrees(t)
	return got
}

func (p *pair) tick(t *testing.T) {
	t.Helper()
	if got, want := p.c.Tick(), p.m.tick(); !slices.EqualFunc(got, want, likeMsg) {
		t.Errorf("Tick: %v, not %v", got, want)
	}
	p.agrees(t)
}

func (p *pair) cancel(t *testing.T) {
	t.Helper()
	got, answer := p.c.Cancel()
	if want, other := p.m.cancel(); got != want || !likeAnswer(answer, other) {
		t.Errorf("Cancel: %v, %v; not %v, %v", got, answer, want, other)
	}
	p.agrees(t)
}

// agrees fails if the client tells something else of itself than the model, or has its version fall.
func (p *pair) agrees(t *testing.T) {
	t.Helper()
	x := p.m
	stands(t, p.c, x.tide.Mark(), x.tide.Version(), x.call.Kind != 0, len(x.tide.Held()))
	holds(t, p.c, x.cache.Entries()...)
	for dir := -1; dir <= 8; dir++ {
		if p.c.Whole(dir) != x.cache.Whole(dir) {
			t.Errorf("Whole(%d): %v", dir, p.c.Whole(dir))
		}
	}
	if p.c.Version() < p.version || p.c.Held() > x.conf.Hold {
		t.Errorf("version %d behind %d, %d held", p.c.Version(), p.version, p.c.Held())
	}
	p.version = p.c.Version()
}

// answer is a reply to the ask that is out, at the mark that lies ahead of now by so many numbers.
func (p *pair) answer(ahead int, e api.Errno, entries ...api.Entry) api.Msg {
	m := reply(p.m.seq, p.m.tide.Mark()+complex(0, float64(ahead)), p.m.tide.Version()+1, e, entries...)
	m.Client, m.Life = p.m.id, p.m.life
	return m
}

// truth is what a small tree says to an op: /d (2) with /d/f (3) and the link /d/l (4) to ../e, and /e (5).
func truth(op api.Op) []api.Entry {
	all := []api.Entry{folder(1, "d", 2), folder(1, "e", 5), file(2, "f", 3), link(2, "l", 4, "../e")}
	var told []api.Entry
	for _, e := range all {
		if e.Key.Dir == op.Dir && (op.Kind == api.OpList || op.Kind == api.OpLook && e.Key.Name == op.Name) {
			told = append(told, e)
		}
	}
	if op.Kind == api.OpLook && len(told) == 0 {
		told = append(told, none(op.Dir, op.Name))
	}
	if op.Kind >= api.OpCreate {
		told = append(told, file(op.Dir, op.Name, 6))
	}
	return told
}

// shortSteps are those of the short scripts.
func shortSteps() []func(t *testing.T, p *pair) {
	starts := func(call api.Call) func(t *testing.T, p *pair) {
		return func(t *testing.T, p *pair) { p.start(t, call) }
	}
	takes := func(m func(p *pair) api.Msg) func(t *testing.T, p *pair) {
		return func(t *testing.T, p *pair) { p.take(t, m(p)) }
	}
	return []func(t *testing.T, p *pair){
		starts(lookup("/d/l")),
		starts(readdir("/d")),
		starts(rename("/d/x", "/e/y")),
		starts(api.Call{Kind: api.CallSync}),
		takes(func(p *pair) api.Msg { return p.answer(0, api.OK, truth(p.m.ask.Op)...) }),
		takes(func(p *pair) api.Msg { return p.answer(1, api.OK, truth(p.m.ask.Op)...) }),
		takes(func(p *pair) api.Msg { return p.answer(1, api.ErrEpoch) }),
		takes(func(p *pair) api.Msg { return p.answer(0, api.ErrBusy, none(1, "d")) }),
		takes(func(p *pair) api.Msg { return broken(p.m.tide.Mark()+1i, 7, key(1, "d")) }),
		takes(func(p *pair) api.Msg { return broken(p.m.tide.Mark()+2i, 9, key(2, "")) }),
		takes(func(p *pair) api.Msg { return flush(p.m.tide.Mark()+1i, 8) }),
		takes(func(p *pair) api.Msg { return reply(p.m.seq, complex(real(p.m.tide.Mark())+1, 0), 0, api.ErrEpoch) }),
		func(t *testing.T, p *pair) { p.cancel(t) },
	}
}

// Every script of a few steps, at limits that are wide, and at such that are narrow.
func TestAllShortScripts(t *testing.T) {
	const length = 5
	steps := shortSteps()
	scripts := 1
	for range length {
		scripts *= len(steps)
	}
	confs := []api.Conf{
		{Clients: 1, Dentries: 9, Negative: 4, Links: 3, Promises: 1, Queue: 1, Hold: 2},
		{Clients: 1, Dentries: 2, Negative: 1, Links: 1, Promises: 1, Queue: 1, Hold: 1},
	}
	for script := range scripts {
		p := newPair(t, 1, 1, confs[script%len(confs)])
		// Known ahead: the epoch, and /d.
		p.start(t, lookup("/d"))
		p.take(t, p.answer(0, api.OK, truth(p.m.ask.Op)...))
		for left, at := script, 0; at < length; left, at = left/len(steps), at+1 {
			steps[left%len(steps)](t, p)
		}
		p.tick(t)
		if t.Failed() {
			t.Fatalf("at the script %d", script)
		}
	}
}

// anyName is one of few, now and then an odd one.
func anyName(r *rand.Rand) string {
	return []string{"a", "b", "c", "d", "a", "b", "c", "\xff"}[r.Intn(8)]
}

// anyPath is a path of some of these names, now and then one that is none.
func anyPath(r *rand.Rand) string {
	path := ""
	for range 1 + r.Intn(4) {
		step := anyName(r)
		switch r.Intn(12) {
		case 0:
			step = ".."
		case 1:
			step = "."
		case 2:
			step += "/"
		}
		path += "/" + step
	}
	switch r.Intn(40) {
	case 0:
		return path[1:]
	case 1:
		return path + "\x00"
	case 2:
		return "/"
	case 3:
		return path + "abcdefghijklm"
	case 4:
		return path + "/."
	}
	return path
}

// anyCall is a made-up call.
func anyCall(r *rand.Rand) api.Call {
	c := api.Call{Kind: 1 + r.Intn(api.CallSync), Path: anyPath(r), Other: anyPath(r), Mode: r.Intn(api.MaxMode + 1)}
	if r.Intn(2) == 0 {
		c.Kind = api.CallLookup + r.Intn(4)
	}
	if r.Intn(60) == 0 {
		c.Kind = r.Intn(40) - 20
	}
	if r.Intn(30) == 0 {
		c.Mode = []int{-1, api.MaxMode + 1}[r.Intn(2)]
	}
	return c
}

// anyEntry is a made-up entry of a key.
func anyEntry(r *rand.Rand, k api.Key) api.Entry {
	switch r.Intn(6) {
	case 0:
		return none(k.Dir, k.Name)
	case 1:
		return file(k.Dir, k.Name, 2+r.Intn(6))
	case 2:
		target := anyPath(r)
		return link(k.Dir, k.Name, 2+r.Intn(6), target[r.Intn(2)%len(target):])
	}
	return folder(k.Dir, k.Name, []int{2, 3, 4, 5, 6, 7, 7, 7, 1, -1}[r.Intn(10)])
}

// anyMessage is a made-up message, mostly one that counts, mostly near the place where a client stands.
func anyMessage(r *rand.Rand, p *pair) api.Msg {
	m := p.answer([]int{0, 0, 0, 1, 2, -1}[r.Intn(6)], []api.Errno{api.OK, api.OK, api.OK, api.OK, api.ErrEpoch, api.ErrBusy}[r.Intn(6)])
	m.Version = p.m.tide.Version() + r.Intn(5) - 2
	op := p.m.ask.Op
	if op.Kind == api.OpLook && r.Intn(8) > 0 {
		m.Entries = append(m.Entries, anyEntry(r, key(op.Dir, op.Name)))
	}
	for range r.Intn(5) * r.Intn(2) {
		dir := op.Dir
		if r.Intn(4) == 0 {
			dir = r.Intn(9) - 1
		}
		m.Entries = append(m.Entries, anyEntry(r, key(dir, anyName(r))))
		if r.Intn(40) == 0 {
			m.Entries[0].Key.Name = ""
		}
	}
	if r.Intn(3) == 0 {
		m.Kind, m.Err, m.Entries, m.Seq = api.MsgBreak, api.OK, nil, 0
		m.Mark = p.m.tide.Mark() + complex(0, []float64{1, 1, 2, 3, 0}[r.Intn(5)])
		for range r.Intn(3) {
			m.Keys = append(m.Keys, key(1+r.Intn(7), []string{anyName(r), ""}[r.Intn(3)/2]))
		}
		if r.Intn(6) == 0 {
			m.Kind, m.Keys = api.MsgFlush, nil
		}
	}
	if r.Intn(30) == 0 {
		m.Mark += complex(float64(r.Intn(4)-1), 0)
	}
	return odd(r, m)
}

// odd is now and then another message, one that does not count.
func odd(r *rand.Rand, m api.Msg) api.Msg {
	switch r.Intn(200) {
	case 0:
		m.Client++
	case 1:
		m.Life--
	case 2:
		m.Kind = r.Intn(9) - 2
	case 3:
		m.Mark += 0.5
	case 4:
		m.Seq += r.Intn(5) - 2
	case 5:
		m.Mark = 0
	}
	return m
}

// anyConf is made up, with narrow limits as often as wide ones.
func anyConf(r *rand.Rand) api.Conf {
	if r.Intn(3) == 0 {
		return api.Conf{Clients: api.MaxClients, Dentries: api.MaxDentries, Negative: api.MaxNegative, Links: api.MaxLinks, Promises: 9, Queue: 9, Hold: api.MaxHold}
	}
	return api.Conf{Clients: api.MaxClients, Dentries: 1 + r.Intn(6), Negative: 1 + r.Intn(3), Links: r.Intn(4), Promises: 1, Queue: 1, Hold: r.Intn(4)}
}

// counts is what made-up scripts have come to.
type counts struct {
	kinds    map[int]int
	answers  map[api.Errno]int
	atOnce   int
	listings int
}

func (n *counts) add(kind int, o outcome, started bool) {
	if !o.done {
		return
	}
	n.answers[o.answer.Err]++
	if o.answer.Err == api.OK {
		n.kinds[kind]++
	}
	if started && o.answer.Err == api.OK {
		n.atOnce++
	}
	if len(o.answer.Names) > 1 {
		n.listings++
	}
}

// Made-up scripts of calls, messages, ticks and cancels.
func TestManyScripts(t *testing.T) {
	n := &counts{kinds: map[int]int{}, answers: map[api.Errno]int{}}
	for seed := range 3000 {
		r := rand.New(rand.NewSource(int64(seed)))
		p := newPair(t, 1+r.Intn(api.MaxClients), 1+r.Intn(9), anyConf(r))
		var sent []api.Msg
		for range 150 {
			kind := p.m.call.Kind
			switch x := r.Intn(24); {
			case x == 0:
				p.tick(t)
			case x == 1 && r.Intn(3) == 0:
				p.cancel(t)
			case x == 2 && len(sent) > 0:
				n.add(kind, p.take(t, sent[len(sent)-1-r.Intn(min(len(sent), 6))]), false)
			case kind == 0 && x > 6, x == 3:
				c := anyCall(r)
				n.add(c.Kind, p.start(t, c), true)
			default:
				m := anyMessage(r, p)
				sent = append(sent, m)
				n.add(kind, p.take(t, m), false)
			}
			if t.Failed() {
				t.Fatalf("at the seed %d", seed)
			}
		}
	}
	n.suffice(t)
}

// suffice fails if some kind of call, or some answer, was too seldom.
func (n *counts) suffice(t *testing.T) {
	t.Helper()
	t.Logf("kinds %v, answers %v, %d at once, %d listings", n.kinds, n.answers, n.atOnce, n.listings)
	for kind := api.CallLookup; kind <= api.CallSync; kind++ {
		if n.kinds[kind] < 300 {
			t.Errorf("of kind %d just %d were done", kind, n.kinds[kind])
		}
	}
	for _, e := range []api.Errno{api.ErrArg, api.ErrName, api.ErrPath, api.ErrNameTooLong, api.ErrNotFound, api.ErrNotDir, api.ErrNotLink, api.ErrLoop, api.ErrBusy} {
		if n.answers[e] < 300 {
			t.Errorf("%v was answered %d times", e, n.answers[e])
		}
	}
	if n.atOnce < 3000 || n.listings < 300 {
		t.Errorf("%d were answered at once, %d had names", n.atOnce, n.listings)
	}
}

// R4: the same calls answer the same.
func TestTheSameAgain(t *testing.T) {
	for seed := range 100 {
		r := rand.New(rand.NewSource(int64(seed)))
		conf := anyConf(r)
		p := newPair(t, 1, 1, conf)
		other := client(t, conf)
		for range 150 {
			if p.m.call.Kind == 0 {
				c := anyCall(r)
				if got, want := of(other.Start(c)), p.start(t, c); !got.like(want) {
					t.Fatalf("%+v, not %+v", got, want)
				}
				continue
			}
			m := anyMessage(r, p)
			if got, want := of(other.Take(m)), p.take(t, m); !got.like(want) {
				t.Fatalf("%+v, not %+v", got, want)
			}
			holds(t, other, p.c.Entries()...)
		}
	}
}
