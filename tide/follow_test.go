package tide_test

import (
	"maps"
	"math/rand"
	"slices"
	"strconv"
	"testing"

	"vista/api"
	"vista/block"
	"vista/mark"
	"vista/scroll"
	"vista/serve"
	"vista/tide"
	"vista/tree"
)

// P11.3

// stream are the breaks 1 to n of epoch 1, each with a key that tells its number; those of flushes are flushes. The version of number n is 10 n.
func stream(n int, flushes ...int) []api.Msg {
	var breaks []api.Msg
	for i := 1; i <= n; i++ {
		m := complex(1, float64(i))
		if slices.Contains(flushes, i) {
			breaks = append(breaks, flush(m, 10*i))
		} else {
			breaks = append(breaks, broken(m, 10*i, key(i, "")))
		}
	}
	return breaks
}

// orders are all orders of n things.
func orders(n int) [][]int {
	if n == 0 {
		return [][]int{nil}
	}
	var found [][]int
	for _, order := range orders(n - 1) {
		for i := range n {
			found = append(found, slices.Insert(slices.Clone(order), i, n-1))
		}
	}
	return found
}

// follower looks at a tide while breaks of epoch 1 come: what it must have applied, and what it must hold.
type follower struct {
	x    *tide.Tide
	come []api.Msg
	// last is the number of what was applied last.
	last int
}

// takes fails if breaks are not applied in their order, each once, none left out but for what a flush stands for; or if the mark, the version, and what is held are not what follows from those that have come.
func (f *follower) takes(t *testing.T, m api.Msg) {
	t.Helper()
	if slices.IndexFunc(f.come, func(other api.Msg) bool { return likeMsg(m, other) }) < 0 {
		f.come = append(f.come, m)
	}
	for _, act := range f.x.Take(m) {
		switch {
		case act.All && m.Kind == api.MsgFlush && numberOf(m) > f.last:
			f.last = numberOf(m)
		case len(act.Keys) == 1 && act.Keys[0].Dir == f.last+1:
			f.last++
		default:
			t.Errorf("behind %d: %v", f.last, act)
		}
	}
	want, version := f.reached()
	var held []api.Msg
	for _, other := range f.come {
		if numberOf(other) > want {
			held = append(held, other)
		}
	}
	stands(t, f.x, complex(1, float64(want)), version, f.x.Asked(), held...)
	if f.last != want {
		t.Errorf("%d was applied last, not %d", f.last, want)
	}
}

// reached is the number up to which those that have come go, one by one or over a flush, and its version.
func (f *follower) reached() (number, version int) {
	for again := true; again; {
		again = false
		for _, m := range f.come {
			if n := numberOf(m); n == number+1 || n > number && m.Kind == api.MsgFlush {
				number, version, again = n, m.Version, true
			}
		}
	}
	return number, version
}

// The breaks of a stream in every order lead to the same mark, by the same acts.
func TestEveryOrder(t *testing.T) {
	for n := range 7 {
		for _, flushes := range [][]int{nil, {1}, {3}, {n}, {2, 5}} {
			breaks := stream(n, flushes...)
			for _, order := range orders(n) {
				f := &follower{x: at(t, max(n-1, 0), 1)}
				for _, i := range order {
					f.takes(t, breaks[i])
				}
				stands(t, f.x, complex(1, float64(n)), 10*n, 0)
				if t.Failed() {
					t.Fatalf("at the order %v, flushes %v", order, flushes)
				}
			}
		}
	}
}

// Breaks that are held back and doubled lead to the same mark, whether a Seq is asked or not.
func TestHeldBackAndDoubled(t *testing.T) {
	for seed := range 2000 {
		r := rand.New(rand.NewSource(int64(seed)))
		hold := r.Intn(api.MaxHold + 1)
		total := 1 + r.Intn(30)
		var flushes []int
		for range r.Intn(3) {
			flushes = append(flushes, 1+r.Intn(total))
		}
		f := &follower{x: at(t, hold, 1)}
		left := stream(total, flushes...)
		for len(left) > 0 {
			if r.Intn(4) == 0 {
				f.x.Ask(r.Intn(3))
			}
			if n := len(f.come); n > 0 && r.Intn(3) == 0 {
				f.takes(t, f.come[r.Intn(n)])
			}
			// None overtakes so many that there were no room for it.
			i := r.Intn(min(len(left), hold+1))
			if numberOf(left[i])-numberOf(left[0]) > hold {
				i = 0
			}
			f.takes(t, left[i])
			left = slices.Delete(left, i, i+1)
		}
		stands(t, f.x, complex(1, float64(total)), 10*total, f.x.Asked())
		if t.Failed() {
			t.Fatalf("at the seed %d", seed)
		}
	}
}

// Where there is no room some are lost; when they come once more, the mark is the same again, with whatever hold, over epochs too.
func TestWhatIsLostComesAgain(t *testing.T) {
	for seed := range 600 {
		r := rand.New(rand.NewSource(int64(seed)))
		hold := r.Intn(api.MaxHold + 1)
		x := client(t, hold)
		var sent []api.Msg
		last, version := complex128(0), 0
		for epoch := 1; epoch <= 1+r.Intn(3); epoch++ {
			breaks := stream(1+r.Intn(20), 1+r.Intn(40))
			for i := range breaks {
				breaks[i].Mark += complex(float64(epoch-1), 0)
			}
			sent = append(sent, breaks...)
			last = breaks[len(breaks)-1].Mark
		}
		for tries := 0; x.Mark() != last; tries++ {
			before := x.Mark()
			x.Take(sent[r.Intn(len(sent))])
			if mark.Later(before, x.Mark()) || x.Version() < version || len(x.Held()) > hold {
				t.Fatalf("seed %d: from %v to %v, %d held", seed, before, x.Mark(), len(x.Held()))
			}
			version = x.Version()
			if tries > 100000 {
				t.Fatalf("seed %d: it stays at %v, not %v", seed, x.Mark(), last)
			}
		}
		if len(x.Held()) != 0 {
			t.Errorf("seed %d: held %v", seed, x.Held())
		}
	}
}

// A reply is used only when all breaks that were made ahead of it are applied.
func TestAReplyWaitsForTheBreaksAheadOfIt(t *testing.T) {
	const n = 4
	breaks := stream(n)
	for number := range n + 1 {
		for _, order := range orders(n + 1) {
			x := at(t, n+1, 1)
			x.Ask(7)
			answer := reply(7, complex(1, float64(number)), 5, api.OK, none(1, "a"), none(2, "b"), none(3, "c"), none(4, "d"))
			used := 0
			for _, i := range order {
				m := answer
				if i < n {
					m = breaks[i]
				}
				for _, act := range x.Take(m) {
					if !act.Reply {
						continue
					}
					used++
					behind := int(imag(x.Mark()))
					if behind < number || act.Whole != (behind == number) || !slices.Equal(act.Entries, slices.Concat(answer.Entries[:number], answer.Entries[behind:])) {
						t.Errorf("of number %d, used at %d: %v", number, behind, act)
					}
				}
			}
			if used != 1 || x.Asked() != 0 {
				t.Errorf("of number %d, in the order %v: used %d times", number, order, used)
			}
		}
	}
}

// reader is a client that lives by its tide alone.
type reader struct {
	id, life, seq int
	x             *tide.Tide
	entries       map[api.Key]api.Entry
	// whole counts the directories of which it knows all names.
	whole map[int]int
	// out is its ask that is not answered yet, least the server's version when it was asked.
	out   api.Msg
	least int
}

func newReader(t *testing.T, id, life, hold int) *reader {
	t.Helper()
	x, e := tide.New(id, life, hold)
	if e != api.OK {
		t.Fatal(e)
	}
	return &reader{id: id, life: life, x: x, entries: map[api.Key]api.Entry{}, whole: map[int]int{}}
}

// asks is the message that asks an op.
func (r *reader) asks(op api.Op, version int) api.Msg {
	r.seq++
	r.x.Ask(r.seq)
	r.least = version
	r.out = api.Msg{Kind: api.MsgAsk, Client: r.id, Life: r.life, Seq: r.seq, Op: op}
	return r.again()
}

// again is the ask that is out, with the mark as it is now.
func (r *reader) again() api.Msg {
	r.out.Mark = r.x.Mark()
	return r.out
}

// ticks are the messages that ask for what was lost.
func (r *reader) ticks() []api.Msg {
	all := []api.Msg{{Kind: api.MsgAsk, Client: r.id, Life: r.life, Seq: 1, Mark: r.x.Mark(), Op: api.Op{Kind: api.OpAgain}}}
	if r.x.Asked() > 0 {
		all = append(all, r.again())
	}
	return all
}

// takes does the acts of a message, and answers what it sends, and whether its ask is answered.
func (r *reader) takes(t *testing.T, m api.Msg) (out []api.Msg, done bool) {
	t.Helper()
	for _, act := range r.x.Take(m) {
		switch {
		case act.All:
			clear(r.entries)
			clear(r.whole)
		case act.Again:
			out = append(out, r.again())
		case act.Reply:
			done = true
			r.learns(t, act)
		default:
			r.forgets(act.Keys)
		}
	}
	return out, done
}

func (r *reader) forgets(keys []api.Key) {
	for _, k := range keys {
		delete(r.whole, k.Dir)
		maps.DeleteFunc(r.entries, func(other api.Key, _ api.Entry) bool {
			return other == k || k.Name == "" && other.Dir == k.Dir
		})
	}
}

func (r *reader) learns(t *testing.T, act api.Act) {
	t.Helper()
	if r.x.Version() < r.least {
		t.Errorf("what was asked at version %d is answered at %d", r.least, r.x.Version())
	}
	if act.Err != api.OK {
		return
	}
	for _, entry := range act.Entries {
		r.entries[entry.Key] = entry
	}
	if r.out.Op.Kind == api.OpList && act.Whole {
		r.whole[r.out.Op.Dir]++
	}
}

// knows fails if what a reader knows is not so in the tree of its version.
func (r *reader) knows(t *testing.T, trees []*tree.Tree) {
	t.Helper()
	is := trees[r.x.Version()]
	for k, entry := range r.entries {
		if truth, e := is.Look(k.Dir, k.Name); e == api.OK && truth != entry {
			t.Errorf("at version %d %v is known, and it is %v", r.x.Version(), entry, truth)
		}
	}
	for dir := range r.whole {
		all, _ := is.List(dir)
		for _, entry := range all {
			if r.entries[entry.Key] != entry {
				t.Errorf("at version %d there is %v in a whole directory", r.x.Version(), entry)
			}
		}
	}
}

// play is a server with its readers, and what is on the way between them.
type play struct {
	r       *rand.Rand
	conf    api.Conf
	s       *serve.Server
	journal *scroll.Scroll
	readers []*reader
	letters []api.Msg
	trees   []*tree.Tree
	// done counts the asks that were answered, wholes the directories that were known wholly behind one, flushed the flushes.
	done, wholes, flushed int
}

func newPlay(t *testing.T, r *rand.Rand) *play {
	t.Helper()
	d, _ := block.New(api.MaxBlocks)
	scroll.Format(d)
	journal, _, e := scroll.Open(d)
	if e != api.OK {
		t.Fatal(e)
	}
	p := &play{r: r, journal: journal, trees: []*tree.Tree{tree.New()}}
	p.conf = api.Conf{Clients: 1 + r.Intn(3), Dentries: 1, Negative: 1, Promises: 1 + r.Intn(6), Queue: 1 + r.Intn(3), Hold: r.Intn(5)}
	for id := range p.conf.Clients {
		p.readers = append(p.readers, newReader(t, id+1, 1, p.conf.Hold))
	}
	p.starts(t, tree.New(), make([]api.Seen, p.conf.Clients), 1)
	return p
}

func (p *play) starts(t *testing.T, tr *tree.Tree, seen []api.Seen, epoch int) {
	t.Helper()
	s, e := serve.New(p.conf, p.journal, tr, seen, epoch)
	if e != api.OK {
		t.Fatal(e)
	}
	p.s = s
}

// restarts is a new server that goes on from the old one's tree, under a new epoch.
func (p *play) restarts(t *testing.T) {
	t.Helper()
	var seen []api.Seen
	for _, r := range p.readers {
		seen = append(seen, p.s.Seen(r.id))
	}
	p.starts(t, p.s.Tree(), seen, p.s.Epoch()+1)
}

// anyOp is a made-up op, in one of the first directories, on one of few names.
func (p *play) anyOp() api.Op {
	op := api.Op{Kind: []int{api.OpLook, api.OpLook, api.OpList, api.OpList, api.OpSync, api.OpCreate, api.OpMkdir, api.OpUnlink, api.OpRmdir, api.OpRename, api.OpSetattr}[p.r.Intn(11)]}
	op.Dir = 1 + p.r.Intn(2)*p.r.Intn(3)
	if op.Kind == api.OpList || op.Kind == api.OpSync {
		return op
	}
	op.Name = strconv.Itoa(p.r.Intn(4))
	if op.Kind == api.OpRename {
		op.To, op.New = 1+p.r.Intn(2), strconv.Itoa(p.r.Intn(4))
	}
	if op.Kind == api.OpCreate || op.Kind == api.OpMkdir || op.Kind == api.OpSetattr {
		op.Mode = p.r.Intn(9)
	}
	return op
}

// arrives brings a message to whom it is for.
func (p *play) arrives(t *testing.T, m api.Msg) {
	t.Helper()
	if m.Kind == api.MsgAsk {
		out, e := p.s.Handle(m)
		if e != api.OK {
			t.Fatal(e)
		}
		p.letters = append(p.letters, out...)
		if p.s.Version() == len(p.trees) {
			p.trees = append(p.trees, p.s.Tree())
		}
		return
	}
	r := p.readers[m.Client-1]
	before := r.x.Mark()
	out, done := r.takes(t, m)
	p.letters = append(p.letters, out...)
	if done {
		p.done++
		p.wholes += len(r.whole)
	}
	if m.Kind == api.MsgFlush && r.x.Mark() != before {
		p.flushed++
	}
	r.knows(t, p.trees)
}

// step lets something happen.
func (p *play) step(t *testing.T) {
	t.Helper()
	r := p.readers[p.r.Intn(len(p.readers))]
	// With many on the way nobody sends more: else all that arrives were old.
	if n := len(p.letters); n > 12 || n > 0 && p.r.Intn(4) > 0 {
		i := p.r.Intn(min(n, 8))
		m := p.letters[i]
		switch p.r.Intn(10) {
		case 0:
			p.letters = slices.Delete(p.letters, i, i+1)
		case 1:
			p.arrives(t, m)
		default:
			p.letters = slices.Delete(p.letters, i, i+1)
			p.arrives(t, m)
		}
		return
	}
	switch p.r.Intn(40) {
	case 0:
		p.restarts(t)
	case 1:
		p.readers[r.id-1] = newReader(t, r.id, r.life+1, p.conf.Hold)
	case 2:
		r.x.Ask(0)
	default:
		if r.x.Asked() == 0 {
			p.letters = append(p.letters, r.asks(p.anyOp(), p.s.Version()))
		} else {
			p.letters = append(p.letters, r.ticks()...)
		}
	}
}

// What clients know by their tides is at each moment so in the tree of their version, whatever the network does, whoever starts anew.
func TestWhatIsKnownIsTrue(t *testing.T) {
	var done, wholes, flushed, versions int
	for seed := range 300 {
		p := newPlay(t, rand.New(rand.NewSource(int64(seed))))
		for range 2500 {
			p.step(t)
		}
		done, wholes, flushed, versions = done+p.done, wholes+p.wholes, flushed+p.flushed, versions+len(p.trees)
		if t.Failed() {
			t.Fatalf("at the seed %d", seed)
		}
	}
	t.Logf("%d asks answered, %d whole directories, %d flushes, %d versions", done, wholes, flushed, versions)
	if done < 20000 || wholes < 5000 || flushed < 100 || versions < 5000 {
		t.Error("that is too little")
	}
}
