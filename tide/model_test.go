package tide_test

import (
	"math"
	"math/rand"
	"slices"
	"testing"

	"vista/api"
	"vista/tide"
)

// applied is a break or a flush as the model keeps it.
type applied struct {
	number int
	all    bool
	keys   []api.Key
}

// model is a tide as the chapter tells it, step by step.
type model struct {
	client, life, hold int
	epoch, number      int
	version, asked     int
	held               []api.Msg
	fresh              []applied
}

func (x *model) ask(seq int) {
	x.asked = seq
	if seq < 0 {
		x.asked = 0
	}
	x.fresh = nil
	var left []api.Msg
	for _, m := range x.held {
		if m.Kind == api.MsgBreak || m.Seq == seq {
			left = append(left, m)
		}
	}
	x.held = left
}

// numbers are a mark's parts, if it is good.
func numbers(m complex128) (epoch, number int, good bool) {
	for _, part := range []float64{real(m), imag(m)} {
		if math.IsNaN(part) || part < 0 || part > api.MaxMark || math.Floor(part) != part {
			return 0, 0, false
		}
	}
	return int(real(m)), int(imag(m)), true
}

func numberOf(m api.Msg) int { return int(imag(m.Mark)) }

func (x *model) take(m api.Msg) []api.Act {
	var acts []api.Act
	epoch, n, good := numbers(m.Mark)
	if m.Kind != api.MsgReply && m.Kind != api.MsgBreak && m.Kind != api.MsgFlush || m.Client != x.client || m.Life != x.life || !good || epoch < x.epoch {
		return nil
	}
	if epoch > x.epoch {
		x.epoch, x.number, x.held, x.fresh = epoch, 0, nil, nil
		acts = append(acts, all())
	}
	k := x.number
	switch m.Kind {
	case api.MsgBreak:
		if n == k+1 {
			acts = append(acts, x.apply(m))
		} else if n > k+1 {
			x.holds(m)
		}
	case api.MsgFlush:
		if n > k {
			acts = append(acts, x.apply(m))
		}
	case api.MsgReply:
		if x.asked != 0 && m.Seq == x.asked && n <= k {
			acts = append(acts, x.use(m))
		} else if x.asked != 0 && m.Seq == x.asked {
			x.holds(m)
		}
	}
	for {
		done, more := x.retry()
		acts = append(acts, more...)
		if !done {
			return acts
		}
	}
}

// retry does the first thing that can be done with what is held.
func (x *model) retry() (bool, []api.Act) {
	for i, m := range x.held {
		if m.Kind == api.MsgBreak && numberOf(m) == x.number+1 {
			x.held = slices.Concat(x.held[:i], x.held[i+1:])
			return true, []api.Act{x.apply(m)}
		}
	}
	for i, m := range x.held {
		if m.Kind == api.MsgReply && numberOf(m) <= x.number {
			x.held = slices.Concat(x.held[:i], x.held[i+1:])
			if x.asked != 0 && m.Seq == x.asked {
				return true, []api.Act{x.use(m)}
			}
			return true, nil
		}
	}
	for i, m := range x.held {
		if m.Kind == api.MsgBreak && numberOf(m) <= x.number {
			x.held = slices.Concat(x.held[:i], x.held[i+1:])
			return true, nil
		}
	}
	return false, nil
}

func (x *model) holds(m api.Msg) {
	for _, other := range x.held {
		if other.Kind == m.Kind && other.Mark == m.Mark {
			return
		}
	}
	if len(x.held) < x.hold {
		x.held = append(x.held, m)
	}
}

func (x *model) apply(m api.Msg) api.Act {
	x.number = numberOf(m)
	if m.Version > x.version {
		x.version = m.Version
	}
	if x.asked != 0 {
		x.fresh = append(x.fresh, applied{number: x.number, all: m.Kind == api.MsgFlush, keys: m.Keys})
	}
	if m.Kind == api.MsgFlush {
		return all()
	}
	return forgets(m.Keys...)
}

func (x *model) use(m api.Msg) api.Act {
	if m.Version > x.version {
		x.version = m.Version
	}
	if m.Err == api.ErrEpoch {
		return again()
	}
	act := whole(m.Err)
	for _, b := range x.fresh {
		if b.number > numberOf(m) {
			act.Whole = false
		}
	}
	for _, entry := range m.Entries {
		if !x.named(entry.Key, numberOf(m)) {
			act.Entries = append(act.Entries, entry)
		}
	}
	x.asked, x.fresh = 0, nil
	return act
}

func (x *model) named(k api.Key, n int) bool {
	for _, b := range x.fresh {
		if b.number > n && (b.all || slices.Contains(b.keys, k) || slices.Contains(b.keys, key(k.Dir, ""))) {
			return true
		}
	}
	return false
}

// pair is a tide with its model.
type pair struct {
	x *tide.Tide
	m *model
}

func newPair(t *testing.T, who, life, hold int) *pair {
	t.Helper()
	x, e := tide.New(who, life, hold)
	if e != api.OK {
		t.Fatalf("New(%d, %d, %d): %d", who, life, hold, e)
	}
	return &pair{x: x, m: &model{client: who, life: life, hold: hold}}
}

func (p *pair) ask(t *testing.T, seq int) {
	t.Helper()
	p.x.Ask(seq)
	p.m.ask(seq)
	p.agrees(t)
}

// take takes a message, and looks at what follows from the chapter's steps, too.
func (p *pair) take(t *testing.T, m api.Msg) {
	t.Helper()
	before, version := p.x.Mark(), p.x.Version()
	does(t, p.x, m, p.m.take(m)...)
	p.agrees(t)
	if now := p.x.Mark(); real(now) < real(before) || real(now) == real(before) && imag(now) < imag(before) || p.x.Version() < version {
		t.Errorf("from %v, version %d, to %v, version %d", before, version, now, p.x.Version())
	}
	for _, held := range p.x.Held() {
		if real(held.Mark) != real(p.x.Mark()) || imag(held.Mark) <= imag(p.x.Mark()) {
			t.Errorf("%v is held at %v", held, p.x.Mark())
		}
	}
}

func (p *pair) agrees(t *testing.T) {
	t.Helper()
	stands(t, p.x, complex(float64(p.m.epoch), float64(p.m.number)), p.m.version, p.m.asked, p.m.held...)
	if len(p.x.Held()) > p.m.hold {
		t.Errorf("%d messages are held, and may be %d", len(p.x.Held()), p.m.hold)
	}
}

// steps are those of the short scripts; a message of kind 0 stands for the Ask of its Seq.
func steps() []api.Msg {
	return []api.Msg{
		broken(1+1i, 1, key(1, "a")),
		broken(1+2i, 2, key(1, "b")),
		broken(1+3i, 3, key(1, "")),
		flush(1+2i, 4),
		flush(1+3i, 1),
		{Seq: 1},
		{Seq: 2},
		{Seq: 0},
		reply(1, 1, 2, api.OK, none(1, "a"), none(2, "a")),
		reply(1, 1+1i, 5, api.OK, none(1, "a"), none(1, "b"), none(2, "a")),
		reply(1, 1+2i, 2, api.ErrEpoch),
		reply(1, 1+2i, 3, api.OK, none(1, "b")),
		reply(2, 1+1i, 3, api.ErrStale, none(1, "b")),
		reply(2, 2, 3, api.ErrEpoch),
		broken(2+1i, 6, key(1, "c")),
		broken(2+2i, 7, key(1, "d")),
	}
}

// Every script of a few steps, begun with a Seq that is asked and with none.
func TestAllShortScripts(t *testing.T) {
	const length = 4
	all := steps()
	scripts := 1
	for range length {
		scripts *= len(all)
	}
	for script := range scripts {
		for begin := range 6 {
			p := newPair(t, 1, 1, begin%3)
			p.ask(t, begin/3)
			left := script
			for range length {
				if m := all[left%len(all)]; m.Kind == 0 {
					p.ask(t, m.Seq)
				} else {
					p.take(t, m)
				}
				left /= len(all)
			}
			if t.Failed() {
				t.Fatalf("at the script %d, begun as %d", script, begin)
			}
		}
	}
}

// anyMessage is a made-up message, mostly one that counts, near the place where a tide stands.
func anyMessage(r *rand.Rand, p *pair) api.Msg {
	m := api.Msg{Kind: api.MsgReply + r.Intn(3), Client: p.m.client, Life: p.m.life, Version: r.Intn(40) - 5}
	epoch, number := p.m.epoch, p.m.number+r.Intn(8)-2
	if r.Intn(40) == 0 {
		epoch += r.Intn(4) - 1
		number = r.Intn(4)
	}
	m.Mark = complex(float64(epoch), float64(number))
	if m.Kind == api.MsgReply {
		m.Seq = p.m.asked
		m.Err = []api.Errno{api.OK, api.OK, api.OK, api.ErrEpoch, api.ErrStale}[r.Intn(5)]
	}
	if m.Kind == api.MsgFlush && r.Intn(3) > 0 {
		m.Kind = api.MsgBreak
	}
	if r.Intn(20) == 0 {
		m.Seq = r.Intn(9) - 1
	}
	for range r.Intn(5) {
		k := key(1+r.Intn(3), []string{"", "a", "b", "c", "\xff"}[r.Intn(5)])
		m.Keys = append(m.Keys, k)
		m.Entries = append(m.Entries, none(1+r.Intn(3), "abc"[r.Intn(3):][:1]))
	}
	if r.Intn(30) == 0 {
		switch r.Intn(5) {
		case 0:
			m.Client++
		case 1:
			m.Life--
		case 2:
			m.Kind = r.Intn(9) - 2
		case 3:
			m.Mark += 0.5i
		case 4:
			m.Mark = complex(math.NaN(), imag(m.Mark))
		}
	}
	return m
}

func TestManyScripts(t *testing.T) {
	var used, parts, later int
	for seed := range 1500 {
		r := rand.New(rand.NewSource(int64(seed)))
		p := newPair(t, 1+r.Intn(api.MaxClients), 1+r.Intn(9), r.Intn(api.MaxHold+1))
		var sent []api.Msg
		for range 120 {
			switch {
			case r.Intn(8) == 0:
				p.ask(t, r.Intn(9)-1)
			case len(sent) > 0 && r.Intn(4) == 0:
				p.take(t, sent[len(sent)-1-r.Intn(min(len(sent), 6))])
			default:
				m := anyMessage(r, p)
				sent = append(sent, m)
				before := *p.m
				p.take(t, m)
				if before.asked != 0 && p.m.asked == 0 {
					used++
					parts += min(len(before.fresh), 1)
				}
				later += p.m.epoch - before.epoch
			}
		}
		if t.Failed() {
			t.Fatalf("at the seed %d", seed)
		}
	}
	if used < 1000 || parts < 500 || later < 500 {
		t.Errorf("of %d replies that were used %d had fresh breaks; %d epochs", used, parts, later)
	}
}

// The same calls answer the same.
func TestTheSameAgain(t *testing.T) {
	for seed := range 50 {
		r := rand.New(rand.NewSource(int64(seed)))
		p, other := newPair(t, 1, 1, 4), client(t, 4)
		for range 100 {
			if r.Intn(8) == 0 {
				seq := r.Intn(4)
				p.ask(t, seq)
				other.Ask(seq)
			}
			m := anyMessage(r, p)
			does(t, other, m, p.x.Take(m)...)
			p.m.take(m)
			stands(t, other, p.x.Mark(), p.x.Version(), p.x.Asked(), p.x.Held()...)
		}
	}
}
