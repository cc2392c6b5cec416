package world_test

import (
	"math"
	"slices"
	"testing"

	"vista/api"
	"vista/block"
	"vista/boot"
	"vista/call"
	"vista/serve"
	"vista/wire"
	"vista/world"
)

// model is a world as the chapter's table says it.
type model struct {
	conf    api.Conf
	disk    *block.Disk
	server  *serve.Server
	letters []api.Letter
	// clients and lives begin with a client 0, which is none.
	clients []*call.Client
	lives   []int
	history []api.Op
	// lost counts the letters that found no room.
	lost int
}

func newModel(t *testing.T, conf api.Conf, blocks int) *model {
	t.Helper()
	m := &model{conf: conf, clients: make([]*call.Client, conf.Clients+1), lives: make([]int, conf.Clients+1)}
	m.disk, _ = block.New(blocks)
	boot.Format(m.disk)
	m.boot()
	for c := 1; c <= conf.Clients; c++ {
		m.lives[c] = 1
		m.clients[c], _ = call.New(c, 1, conf)
	}
	if m.server == nil {
		t.Fatal("the server does not start")
	}
	return m
}

func (m *model) boot() {
	s, e := boot.Start(m.disk, m.conf)
	if e != api.OK {
		m.disk.Cut()
		return
	}
	m.server = s
}

func (m *model) post(out []api.Msg) {
	for _, x := range out {
		b, e := wire.Encode(x)
		switch {
		case e != api.OK:
		case len(m.letters) == 64:
			m.lost++
		case x.Kind == api.MsgAsk:
			m.letters = append(m.letters, api.Letter{To: 0, Bytes: b})
		default:
			m.letters = append(m.letters, api.Letter{To: x.Client, Bytes: b})
		}
	}
}

// do does an event.
func (m *model) do(ev api.Event) api.Step {
	var s api.Step
	var out []api.Msg
	if c := ev.Client; c >= 1 && c <= m.conf.Clients {
		switch ev.Kind {
		case api.EvCall:
			s.Client = c
			out, s.Done, s.Answer = m.clients[c].Start(ev.Call)
		case api.EvTick:
			s.Client = c
			out = m.clients[c].Tick()
		case api.EvCrash:
			s.Client = c
			m.lives[c]++
			m.clients[c], _ = call.New(c, m.lives[c], m.conf)
		case api.EvCancel:
			s.Client = c
			s.Done, s.Answer = m.clients[c].Cancel()
		}
	}
	if n := len(m.letters); n > 0 {
		// From 0 on: so -1 is the last one.
		i := ev.N % n
		if i < 0 {
			i += n
		}
		l := m.letters[i]
		switch ev.Kind {
		case api.EvDeliver:
			m.letters = append(append([]api.Letter{}, m.letters[:i]...), m.letters[i+1:]...)
			if l.To == 0 {
				m.handle(l)
				break
			}
			s.Client = l.To
			if x, e := wire.Decode(l.Bytes); e == api.OK {
				out, s.Done, s.Answer = m.clients[l.To].Take(x)
			}
		case api.EvDrop:
			m.letters = append(append([]api.Letter{}, m.letters[:i]...), m.letters[i+1:]...)
		case api.EvDouble:
			if n < 64 {
				m.letters = append(m.letters, l)
			}
		}
	}
	m.power(ev)
	m.post(out)
	if s.Sent = len(out); s.Client > 0 {
		s.Life, s.Version = m.lives[s.Client], m.clients[s.Client].Version()
	}
	if m.server != nil {
		s.Up, s.Server = true, m.server.Version()
	}
	return s
}

// handle brings a letter to the server.
func (m *model) handle(l api.Letter) {
	x, e := wire.Decode(l.Bytes)
	if m.server == nil || e != api.OK {
		return
	}
	before := m.server.Seen(x.Client)
	out, e := m.server.Handle(x)
	if e != api.OK {
		m.server = nil
		return
	}
	if now := m.server.Seen(x.Client); now != before && now.Err == api.OK {
		m.history = append(m.history, x.Op)
	}
	m.post(out)
}

// power does an event of the server's.
func (m *model) power(ev api.Event) {
	switch {
	case ev.Kind == api.EvFuse && m.server != nil && ev.N >= 0:
		m.disk.Fuse(ev.N)
	case ev.Kind == api.EvCut && m.server != nil:
		m.disk.Cut()
		m.server = nil
	case ev.Kind == api.EvBoot && m.server == nil:
		m.disk.Power()
		if ev.N >= 0 {
			m.disk.Fuse(ev.N)
		}
		m.boot()
	}
}

// tells is all that a world of the model tells.
func (m *model) tells() told {
	x := told{History: some(m.history), Letters: some(m.letters), Clients: make([]ofClient, len(m.clients)+1)}
	if m.server != nil {
		x.Up, x.Epoch, x.Version, x.Tree = true, m.server.Epoch(), m.server.Version(), some(m.server.Tree().Dump())
	}
	for c := 1; c < len(m.clients); c++ {
		k := m.clients[c]
		y := ofClient{Life: m.lives[c], Seen: k.Version(), Held: k.Held(), Busy: k.Busy(), Mark: k.Mark(), Entries: some(k.Entries())}
		for dir := range len(m.history) + 4 {
			if k.Whole(dir) {
				y.Whole = append(y.Whole, dir)
			}
		}
		if m.server != nil {
			y.Promises, y.Queue = some(m.server.Promises(c)), broken(m.server.Queue(c))
		}
		x.Clients[c] = y
	}
	return x
}

// pair is a world beside the model of it.
type pair struct {
	w *world.World
	m *model
}

func newPair(t *testing.T, conf api.Conf, blocks int) pair {
	t.Helper()
	return pair{made(t, conf, blocks), newModel(t, conf, blocks)}
}

// do does an event in both, and fails if the steps are unlike.
func (p pair) do(t *testing.T, ev api.Event) api.Step {
	t.Helper()
	step := p.w.Do(ev)
	is(t, "a step", step, p.m.do(ev))
	return step
}

// agree fails if the two tell unlike things.
func (p pair) agree(t *testing.T) {
	t.Helper()
	alike(t, "behind a step", tells(p.w, p.m.conf.Clients), p.m.tells())
	likeDisk(t, "behind a step", p.w.Disk(), p.m.disk)
}

// Made-up scripts: each step, and behind each all that is told, is as the chapter says.
func TestScripts(t *testing.T) {
	count := map[string]int{}
	for seed := range 240 {
		x := newWeather(seed)
		p := newPair(t, x.conf, x.blocks)
		for range 250 {
			ev := x.event(p.w)
			step := p.do(t, ev)
			p.agree(t)
			if t.Failed() {
				t.Fatalf("seed %d: at %+v", seed, ev)
			}
			counts(count, step)
		}
		count["lost"] += p.m.lost
	}
	enough(t, count, map[string]int{"done": 6000, "full": 300, "lost": 200, "down": 2000})
}

// counts keeps what scripts come to.
func counts(count map[string]int, step api.Step) {
	if step.Done {
		count["done"]++
	}
	if step.Answer.Err == api.ErrFull {
		count["full"]++
	}
	if !step.Up {
		count["down"]++
	}
}

// enough fails if scripts have come to too little to mean anything.
func enough(t *testing.T, count, least map[string]int) {
	t.Helper()
	t.Log(count)
	for what, n := range least {
		if count[what] < n {
			t.Errorf("%s: %d times alone", what, count[what])
		}
	}
}

// Every script of three events out of some, from a few beginnings.
func TestShortScripts(t *testing.T) {
	events := []api.Event{
		deliver(0), deliver(-1), of(api.EvDrop, 0), of(api.EvDouble, math.MaxInt), at(1, api.EvTick), at(2, api.EvCrash), at(1, api.EvCancel),
		of(api.EvFuse, 0), of(api.EvFuse, 1), of(api.EvCut, 0), of(api.EvBoot, -1), of(api.EvBoot, 0), calls(1, create("/a", 3)), calls(2, lookup("/a")),
	}
	beginnings := [][]api.Event{
		nil,
		{calls(1, lookup("/a")), deliver(0), deliver(0)},
		{calls(1, lookup("/a")), deliver(0), deliver(0), deliver(0), deliver(0), calls(2, create("/a", 3)), deliver(0), deliver(0), deliver(0)},
		{calls(1, create("/a", 3)), deliver(0), deliver(0), of(api.EvCut, 0)},
	}
	for _, begin := range beginnings {
		for i := range len(events) * len(events) * len(events) {
			script := append(slices.Clone(begin), events[i%len(events)], events[i/len(events)%len(events)], events[i/len(events)/len(events)])
			p := newPair(t, limits(2), 9)
			for _, ev := range script {
				p.do(t, ev)
			}
			p.agree(t)
			if t.Failed() {
				t.Fatalf("at %+v", script)
			}
		}
	}
}
