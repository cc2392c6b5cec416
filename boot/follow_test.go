package boot_test

import (
	"fmt"
	"math/rand"
	"slices"
	"testing"

	"vista/api"
	"vista/block"
	"vista/boot"
	"vista/scroll"
	"vista/serve"
	"vista/tree"
	"vista/wire"
)

// P10.4

// cut is where the power was lost: in a start or in a mutation, in a Turn or in an Append, ahead of its first write or behind it.
type cut struct{ start, turn, behind bool }

// play is a disk with a server over it, if one is up, and beside it what was answered.
type play struct {
	d    *block.Disk
	conf api.Conf
	s    *serve.Server
	// tree and seen are what all answered mutations come to.
	tree *tree.Tree
	seen []api.Seen
	// epochs are those of all starts; epoch is the last one.
	epochs map[int]int
	epoch  int
	// life and seqs are the clients'; last are their last mutations, answered or not.
	life int
	seqs []int
	last []api.Msg
	cuts map[cut]int
	errs map[api.Errno]int
}

func newPlay(t *testing.T, clients, half int) *play {
	t.Helper()
	return &play{
		d: formatted(t, 2*half+1), conf: limits(clients), tree: tree.New(), seen: make([]api.Seen, clients),
		epochs: map[int]int{}, life: 1, seqs: make([]int, clients), last: make([]api.Msg, clients),
		cuts: map[cut]int{}, errs: map[api.Errno]int{},
	}
}

// recovers fails if the disk does not tell what was answered, whether the power is on or not.
func (p *play) recovers(t *testing.T, what string) {
	t.Helper()
	tells(t, what, p.d, state{base: base(p.epoch, p.tree.Version(), p.tree.Next()), entries: p.tree.Dump(), seen: p.seen})
}

// room is how many blocks the journal has left.
func (p *play) room(t *testing.T) int {
	t.Helper()
	j, _, e := scroll.Open(p.d)
	if e != api.OK {
		t.Fatalf("Open: %d", e)
	}
	return j.Room()
}

// falls notes where the power was lost.
func (p *play) falls(t *testing.T, start, turn bool, writes int) {
	t.Helper()
	if p.d.On() {
		t.Error("ErrPower, and the power is on")
	}
	p.s = nil
	p.cuts[cut{start, turn, p.d.Writes() > writes}]++
}

// starts tries a start, with whatever fuse burns.
func (p *play) starts(t *testing.T) {
	t.Helper()
	turn, writes := p.room(t) == 0, p.d.Writes()
	s, e := boot.Start(p.d, p.conf)
	switch {
	case e == api.ErrPower && s == nil:
		p.falls(t, true, turn, writes)
	case e != api.OK || s == nil:
		t.Fatalf("Start: %v, %d", s, e)
	default:
		if p.epochs[s.Epoch()] > 0 || s.Epoch() <= p.epoch {
			t.Errorf("the epoch %d is not new: %v", s.Epoch(), p.epochs)
		}
		p.s, p.epoch = s, s.Epoch()
		p.epochs[p.epoch]++
		fresh(t, "started", s, p.conf, state{base: base(p.epoch, p.tree.Version(), p.tree.Next()), entries: p.tree.Dump(), seen: p.seen})
	}
	p.recovers(t, "a start")
}

// mutates asks for a client's next mutation.
func (p *play) mutates(t *testing.T, client int, op api.Op) {
	t.Helper()
	p.seqs[client-1]++
	p.last[client-1] = api.Msg{Kind: api.MsgAsk, Client: client, Life: p.life, Seq: p.seqs[client-1], Op: op}
	p.repeats(t, client)
}

// repeats asks for a client's last mutation, once more if it was asked for.
func (p *play) repeats(t *testing.T, client int) {
	t.Helper()
	a := p.last[client-1]
	if a.Kind == 0 {
		return
	}
	a.Mark = complex(float64(p.epoch), 0)
	record, _ := wire.Pack(done(client, a.Life, a.Seq, api.OK, a.Op))
	turn, writes := p.room(t) < pieces(record), p.d.Writes()
	out, e := p.s.Handle(a)
	if e == api.ErrPower {
		p.falls(t, false, turn, writes)
		p.recovers(t, fmt.Sprint("in the flight of ", a))
		return
	}
	if e != api.OK || len(out) == 0 || out[len(out)-1].Kind != api.MsgReply {
		t.Fatalf("%v: %v, %d", a, out, e)
	}
	p.answered(t, a, out[len(out)-1].Err)
	p.recovers(t, fmt.Sprint("behind ", a))
}

// answered does beside what was answered for the first time.
func (p *play) answered(t *testing.T, a api.Msg, e api.Errno) {
	t.Helper()
	p.errs[e]++
	last := &p.seen[a.Client-1]
	if last.Life == a.Life && last.Seq == a.Seq {
		if e != last.Err {
			t.Errorf("%v once more: %d, not %d", a, e, last.Err)
		}
		return
	}
	if e == api.ErrFull {
		return
	}
	if _, _, want := p.tree.Apply(a.Op); e != want {
		t.Errorf("%v: %d, not %d", a, e, want)
	}
	*last = api.Seen{Life: a.Life, Seq: a.Seq, Err: e}
}

// rises starts till a server is up, with each fuse that is handed in, and then without one.
func (p *play) rises(t *testing.T, fuse func() int) {
	t.Helper()
	for p.s == nil {
		p.d.Power()
		if n := fuse(); n >= 0 {
			p.d.Fuse(n)
		}
		p.starts(t)
	}
}

// script are mutations of records short and long, that fill a small journal and empty it.
func script() []api.Op {
	long := mkdir(1, "b")
	long.Target, long.New = target(96), target(60)
	refused := rmdir(1, "c")
	refused.Target = target(96)
	return []api.Op{
		mkdir(1, "a"), chmod(1, "a", 1), long, {Kind: api.OpSymlink, Dir: 1, Name: "l", Target: target(50)}, refused,
		rename(1, "a", 3, "a"), {Kind: api.OpUnlink, Dir: 1, Name: "l"}, rmdir(3, "a"), mkdir(1, "b"), rmdir(1, "b"),
	}
}

// All lists of three fuses, the next one lit when the power has gone, ahead of the start: on each small disk each raw write is the last one, of a mutation, of a Turn, of a Start.
func TestAllCuts(t *testing.T) {
	const most = 11
	cuts, errs := map[cut]int{}, map[api.Errno]int{}
	for _, half := range []int{1, 3, 5, 8} {
		for number := range most * most * most {
			fuses := []int{number % most, number / most % most, number / most / most}
			next := func() int {
				if len(fuses) == 0 {
					return -1
				}
				n := fuses[0]
				fuses = fuses[1:]
				return n
			}
			p := newPlay(t, 2, half)
			p.cuts, p.errs = cuts, errs
			p.rises(t, next)
			for i, op := range script() {
				p.mutates(t, 1+i%2, op)
				for p.s == nil {
					p.rises(t, next)
					// It was not answered: it is asked for again, and done once.
					p.repeats(t, 1+i%2)
				}
			}
			p.rises(t, next)
			if t.Failed() {
				t.Fatalf("half %d, at the cuts %d", half, number)
			}
		}
	}
	met(t, cuts, errs, api.OK, api.ErrFull, api.ErrNotFound)
}

// met fails if the power was not lost in each place where it can be, or one of these errors was not answered: what is never met is not tested.
func met(t *testing.T, cuts map[cut]int, errs map[api.Errno]int, wanted ...api.Errno) {
	t.Helper()
	for i := range 8 {
		where := cut{i&1 > 0, i&2 > 0, i&4 > 0}
		if possible := where != (cut{start: true, behind: true}); possible != (cuts[where] > 20) {
			t.Errorf("the power was lost %d times in %+v", cuts[where], where)
		}
	}
	for _, e := range wanted {
		if errs[e] < 20 {
			t.Errorf("the error %d was answered %d times", e, errs[e])
		}
	}
}

// anyStep does something, with the power lost at times.
func (p *play) anyStep(t *testing.T, r *rand.Rand) {
	t.Helper()
	if p.s == nil {
		p.rises(t, func() int { return r.Intn(12) - 2 })
	}
	client := 1 + r.Intn(p.conf.Clients)
	switch n := r.Intn(100); {
	case n < 70:
		p.mutates(t, client, anyOp(r))
	case n < 80:
		p.repeats(t, client)
	case n < 93:
		p.d.Fuse(r.Intn(9))
	case n < 95:
		p.life++
		clear(p.seqs)
		clear(p.last)
	case n < 97:
		p.d.Cut()
	default:
		// The server is gone without a word, and started again.
		p.s = nil
		p.starts(t)
	}
}

func TestManyCuts(t *testing.T) {
	cuts, errs, epochs := map[cut]int{}, map[api.Errno]int{}, 0
	for seed := range 300 {
		r := rand.New(rand.NewSource(int64(seed)))
		half := 1 + r.Intn(12)
		if seed%3 == 0 {
			half = 1 + r.Intn(60)
		}
		p := newPlay(t, 1+r.Intn(api.MaxClients), half)
		p.cuts, p.errs = cuts, errs
		for range 150 {
			p.anyStep(t, r)
		}
		p.rises(t, func() int { return -1 })
		if t.Failed() {
			t.Fatalf("at the seed %d", seed)
		}
		epochs = max(epochs, len(p.epochs))
	}
	met(t, cuts, errs, api.OK, api.ErrFull, api.ErrNotFound, api.ErrExist, api.ErrStale, api.ErrNotEmpty, api.ErrInside)
	if epochs < 20 {
		t.Errorf("%d epochs at most", epochs)
	}
}

// The greatest disk, and a tree as great as can be, with the power lost now and then.
func TestGreatDisks(t *testing.T) {
	for seed := range 4 {
		r := rand.New(rand.NewSource(int64(seed)))
		p := newPlay(t, api.MaxClients, []int{80, 150, 300, (api.MaxBlocks - 1) / 2}[seed])
		p.rises(t, func() int { return -1 })
		for i := range 500 {
			if p.s == nil {
				p.rises(t, func() int { return r.Intn(60) })
			}
			op := mkdir(1, fmt.Sprint("name ", i%60))
			if i%7 > 2 && i > 60 {
				op = anyOp(r)
			}
			if r.Intn(20) == 0 {
				p.d.Fuse(r.Intn(90))
			}
			p.mutates(t, 1+i%api.MaxClients, op)
			if t.Failed() {
				t.Fatalf("at the seed %d, step %d", seed, i)
			}
		}
		if p.errs[api.ErrRoom] == 0 {
			t.Errorf("the tree was never full: %v", p.errs)
		}
	}
}

// The same start broken off again and again does not use anything up.
func TestStartsThatAreBrokenOff(t *testing.T) {
	for half := 3; half <= 5; half++ {
		p := newPlay(t, 1, half)
		p.rises(t, func() int { return -1 })
		for i := range 3 * half {
			p.mutates(t, 1, chmod(1, "a", i))
		}
		for p.room(t) > 0 {
			p.starts(t)
		}
		before := p.epoch
		for i := range 100 {
			p.d.Power()
			p.d.Fuse(i % 3)
			p.starts(t)
		}
		if p.s != nil || p.epoch != before {
			t.Errorf("half %d: epoch %d behind %d", half, p.epoch, before)
		}
		p.rises(t, func() int { return -1 })
		if p.epoch != before+1 || !slices.Equal(journal(t, p.d)[0], packed(t, base(p.epoch, 0, 2))[0]) {
			t.Errorf("half %d: epoch %d behind %d, %x", half, p.epoch, before, journal(t, p.d))
		}
	}
}
