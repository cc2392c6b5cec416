package boot_test

import (
	"fmt"
	"slices"
	"testing"

	"vista/api"
	"vista/block"
	"vista/boot"
	"vista/scroll"
	"vista/serve"
)

// P10.3

// next is what a journal says behind a start.
func (s state) next() state {
	s.base.Epoch++
	return s
}

// snapshot are the notes that say a state.
func (s state) snapshot() []api.Note {
	notes := []api.Note{s.base}
	for _, entry := range s.entries {
		notes = append(notes, node(entry))
	}
	for i, last := range s.seen {
		if last.Life > 0 {
			notes = append(notes, seen(i+1, last.Life, last.Seq, last.Err))
		}
	}
	return notes
}

// fresh fails if a server is not one that has just been started with this.
func fresh(t *testing.T, what string, s *serve.Server, conf api.Conf, want state) {
	t.Helper()
	tr := s.Tree()
	if s.Epoch() != want.base.Epoch || s.Version() != want.base.Version || tr.Version() != want.base.Version || tr.Next() != want.base.Next {
		t.Errorf("%s: the server is at epoch %d, version %d, next %d, not at %v", what, s.Epoch(), s.Version(), tr.Next(), want.base)
	}
	if !slices.Equal(tr.Dump(), want.entries) {
		t.Errorf("%s: the server's tree is %v, not %v", what, tr.Dump(), want.entries)
	}
	for client := range api.MaxClients + 2 {
		var last api.Seen
		if client >= 1 && client <= conf.Clients {
			last = want.seen[client-1]
		}
		if s.Seen(client) != last || s.Mark(client) != 0 || len(s.Promises(client)) > 0 || len(s.Queue(client)) > 0 {
			t.Errorf("%s: client %d: %v, %v, %v, %v", what, client, s.Seen(client), s.Mark(client), s.Promises(client), s.Queue(client))
		}
	}
}

// begins fails if Start does not answer a server that goes on from was, or if the journal holds something else than these records then.
func begins(t *testing.T, what string, d *block.Disk, conf api.Conf, was state, want ...[]byte) *serve.Server {
	t.Helper()
	tells(t, what, d, was)
	s, e := boot.Start(d, conf)
	if s == nil || e != api.OK {
		t.Fatalf("%s: Start: %v, %d", what, s, e)
	}
	fresh(t, what, s, conf, was.next())
	holds(t, what, d, want...)
	tells(t, what, d, was.next())
	return s
}

func TestStart(t *testing.T) {
	d := formatted(t, 9)
	begins(t, "a new journal", d, limits(2), begin(2), []byte{1, 1})

	notes, want := everyNote()
	records := packed(t, notes...)
	d = noted(t, notes...)
	s := begins(t, "every note", d, limits(3), want, append(records, []byte{1, 78})...)

	// The server goes on over that journal, under its epoch.
	out, e := s.Handle(api.Msg{Kind: api.MsgAsk, Client: 3, Life: 1, Seq: 9, Mark: 78, Op: chmod(1, "a", 1)})
	if e != api.OK || len(out) != 1 || out[0].Err != api.OK || out[0].Version != 11 || out[0].Mark != 78 {
		t.Errorf("a mutation: %v, %d", out, e)
	}
	entries := slices.Clone(want.entries)
	entries[0].Node.Mode = 1
	// There was room for the epoch alone: the journal was turned to what it said ahead of the mutation.
	kept := packed(t, append(want.next().snapshot(), done(3, 1, 9, api.OK, chmod(1, "a", 1)))...)
	holds(t, "a mutation", d, kept...)
	seen := slices.Clone(want.seen)
	seen[2] = api.Seen{Life: 1, Seq: 9}
	behind := state{base: base(78, 11, 10), entries: entries, seen: seen}
	tells(t, "a mutation", d, behind)
	begins(t, "once more", d, limits(3), behind, append(kept, []byte{1, 79})...)
}

// Start after Start: each epoch is the one behind the last, whether the journal has room for it or is turned.
func TestStartsBehindStarts(t *testing.T) {
	for half := 1; half <= 5; half++ {
		d := formatted(t, 2*half+1)
		was := begin(2)
		var want [][]byte
		for epoch := 1; epoch <= 300; epoch++ {
			if len(want) == half {
				want = packed(t, base(epoch, 0, 2))
			} else {
				want = append(want, packed(t, started(epoch))...)
			}
			begins(t, fmt.Sprintf("half %d, epoch %d", half, epoch), d, limits(2), was, want...)
			was = was.next()
		}
	}
}

func TestFullJournal(t *testing.T) {
	notes, want := everyNote()
	records := packed(t, notes...)
	half := pieces(records...)
	for clients := 3; clients <= api.MaxClients; clients++ {
		d := written(t, half, records...)
		want := want
		want.seen = append(slices.Clone(want.seen), make([]api.Seen, clients-3)...)
		turned := packed(t, want.next().snapshot()...)
		s := begins(t, "full", d, limits(clients), want, turned...)
		j, _, _ := scroll.Open(d)
		if j.Generation() != 2 || j.Room() != half-pieces(turned...) {
			t.Errorf("generation %d, room %d", j.Generation(), j.Room())
		}
		// The server goes on over the journal that was turned.
		if out, e := s.Handle(api.Msg{Kind: api.MsgAsk, Client: 1, Life: 9, Seq: 1, Mark: 78, Op: rmdir(1, "no")}); e != api.OK || len(out) != 1 || out[0].Err != api.ErrNotFound {
			t.Errorf("a mutation: %v, %d", out, e)
		}
		holds(t, "a mutation", d, append(turned, packed(t, done(1, 9, 1, api.ErrNotFound, rmdir(1, "no")))...)...)
	}
	// With a block of room it is not turned.
	d := written(t, half+1, records...)
	begins(t, "a block of room", d, limits(3), want, append(records, []byte{1, 78})...)
}

// A snapshot of just a half's blocks can be turned to; one block more, and there is no start.
func TestSnapshotsOfJustAHalf(t *testing.T) {
	made := func(life int) api.Note { return done(1, life, 1, api.OK, mkdir(1, "a")) }
	// The base, the node, and a seen if there is a life.
	d := written(t, 2, packed(t, made(0), started(4))...)
	was := state{base: base(4, 1, 3), entries: []api.Entry{dir(2, 1, "a")}, seen: []api.Seen{{Seq: 1}}}
	tells(t, "a half", d, was)
	s, e := boot.Start(d, limits(1))
	if e != api.OK {
		t.Fatalf("Start: %d", e)
	}
	// Who has no life is in no snapshot; the server has been told of it still.
	fresh(t, "a half", s, limits(1), was.next())
	holds(t, "a half", d, packed(t, base(5, 1, 3), node(dir(2, 1, "a")))...)

	d = written(t, 2, packed(t, made(1), started(4))...)
	starts(t, "more than a half", d, limits(1), api.ErrFull)
	was.seen[0].Life = 1
	tells(t, "more than a half", d, was)
	d = written(t, 2, packed(t, made(1))...)
	was.base.Epoch = 0
	begins(t, "more than a half, with room", d, limits(1), was, packed(t, made(1), started(1))...)
	d = written(t, 3, packed(t, made(1), started(4), started(5))...)
	was.base.Epoch = 5
	begins(t, "a half of three", d, limits(1), was, packed(t, base(6, 1, 3), node(dir(2, 1, "a")), seen(1, 1, 1, api.OK))...)

	// It is counted in pieces: a link may take two.
	made = func(bytes int) api.Note {
		return done(1, 1, 1, api.OK, api.Op{Kind: api.OpSymlink, Dir: 1, Name: "l", Target: target(bytes)})
	}
	for bytes, want := range map[int]api.Errno{37: api.OK, 38: api.OK, 44: api.OK, 45: api.ErrFull, 46: api.ErrFull, 90: api.ErrFull} {
		records := packed(t, made(bytes))
		for pieces(records...) < 3 {
			records = append(records, []byte{1, 4})
		}
		if s, e := boot.Start(written(t, 3, records...), limits(1)); e != want || (s == nil) != (e != api.OK) {
			t.Errorf("a link of %d bytes: %v, %d, not %d", bytes, s, e, want)
		}
	}
}

func TestTheLastGeneration(t *testing.T) {
	d := raw(t, 5)
	d.Write(0, lastHeader())
	begins(t, "room", d, limits(1), begin(1), []byte{1, 1})
	was := begin(1).next()
	begins(t, "room", d, limits(1), was, []byte{1, 1}, []byte{1, 2})
	starts(t, "full", d, limits(1), api.ErrScroll)
	tells(t, "full", d, was.next())
}

func TestConf(t *testing.T) {
	d := formatted(t, 99)
	for i, x := range []struct{ least, most int }{
		{1, api.MaxClients}, {1, api.MaxDentries}, {1, api.MaxNegative}, {0, api.MaxLinks}, {1, api.MaxPromises}, {1, api.MaxQueue}, {0, api.MaxHold},
	} {
		for _, n := range []int{x.least - 1, -1, x.most + 1, 1 << 40} {
			conf := limits(2)
			*fields(&conf)[i] = n
			starts(t, fmt.Sprint(conf), d, conf, api.ErrArg)
			starts(t, fmt.Sprint(conf), raw(t, 1), conf, api.ErrArg)
		}
		for _, n := range []int{x.least, x.most} {
			conf := limits(2)
			*fields(&conf)[i] = n
			s, e := boot.Start(d, conf)
			if s == nil || e != api.OK {
				t.Errorf("%v: %v, %d", conf, s, e)
			}
		}
	}
	starts(t, "no conf", d, api.Conf{}, api.ErrArg)
}

// fields are those of limits, in their order.
func fields(c *api.Conf) []*int {
	return []*int{&c.Clients, &c.Dentries, &c.Negative, &c.Links, &c.Promises, &c.Queue, &c.Hold}
}

// The server keeps to the limits it was started with.
func TestTheServersConf(t *testing.T) {
	for clients := 1; clients <= api.MaxClients; clients++ {
		for promises := 1; promises <= 3; promises++ {
			conf := limits(clients)
			conf.Promises, conf.Queue = promises, 1+promises
			s, _ := boot.Start(formatted(t, 9), conf)
			for client := 1; client <= api.MaxClients; client++ {
				for i := range 9 {
					s.Handle(api.Msg{Kind: api.MsgAsk, Client: client, Life: 1, Seq: 1 + i, Mark: 1, Op: api.Op{Kind: api.OpLook, Dir: 1, Name: string(rune('a' + i))}})
					// The break behind conf.Queue of them makes everything forgotten.
					want := min(i+1, promises)
					if i == 2*promises+1 {
						want = 0
					}
					if client > clients {
						want = 0
					}
					if got := len(s.Promises(client)); i <= 2*promises+1 && got != want {
						t.Errorf("client %d of %d, ask %d: %d promises, not %d", client, clients, i, got, want)
					}
				}
			}
		}
	}
}

func TestEpochs(t *testing.T) {
	for _, epoch := range []int{0, 1, 127, 128, api.MaxMark - 2, api.MaxMark - 1} {
		for _, last := range []api.Note{started(epoch), base(epoch, 0, 2)} {
			was := begin(2)
			was.base.Epoch = epoch
			d := written(t, 2, packed(t, last)...)
			begins(t, "room", d, limits(2), was, packed(t, last, started(epoch+1))...)
			d = written(t, 1, packed(t, last)...)
			begins(t, "full", d, limits(2), was, packed(t, base(epoch+1, 0, 2))...)
		}
	}
	for _, last := range []api.Note{started(api.MaxMark), base(api.MaxMark, 0, 2)} {
		for half := 1; half <= 2; half++ {
			d := written(t, half, packed(t, last)...)
			starts(t, "the last epoch", d, limits(2), api.ErrArg)
			tells(t, "the last epoch", d, state{base: base(api.MaxMark, 0, 2), seen: make([]api.Seen, 2)})
		}
	}
	// The epoch that counts is the last one.
	d := noted(t, started(api.MaxMark), started(5))
	begins(t, "a lesser one", d, limits(2), state{base: base(5, 0, 2), seen: make([]api.Seen, 2)}, packed(t, started(api.MaxMark), started(5), started(6))...)
	starts(t, "a greater one", noted(t, base(5, 0, 2), started(api.MaxMark)), limits(2), api.ErrArg)
	// It is used up for good.
	d = noted(t, started(api.MaxMark-1))
	if s, e := boot.Start(d, limits(2)); e != api.OK || s.Epoch() != api.MaxMark {
		t.Fatalf("Start: %d", e)
	}
	starts(t, "used up", d, limits(2), api.ErrArg)
}

// cuts starts with each fuse that is too short for so many writes, and then with the one that is not.
func cuts(t *testing.T, what string, d *block.Disk, conf api.Conf, was state, writes int) {
	t.Helper()
	for fuse := range writes + 1 {
		d.Power()
		if e := d.Fuse(fuse); e != api.OK {
			t.Fatalf("Fuse: %d", e)
		}
		before := d.Writes()
		s, e := boot.Start(d, conf)
		if d.Writes() != before+fuse {
			t.Errorf("%s: fuse %d: %d writes", what, fuse, d.Writes()-before)
		}
		if fuse < writes {
			if s != nil || e != api.ErrPower || d.On() {
				t.Errorf("%s: fuse %d: %v, %d", what, fuse, s, e)
			}
			tells(t, what, d, was)
			// Without power there is no other start.
			starts(t, what, d, conf, api.ErrPower)
			continue
		}
		if s == nil || e != api.OK {
			t.Fatalf("%s: fuse %d: %v, %d", what, fuse, s, e)
		}
		fresh(t, what, s, conf, was.next())
		tells(t, what, d, was.next())
	}
}

func TestPowerIsLost(t *testing.T) {
	notes, want := everyNote()
	records := packed(t, notes...)
	half := pieces(records...)
	cuts(t, "a new journal", formatted(t, 9), limits(2), begin(2), 1)
	cuts(t, "room", written(t, half+1, records...), limits(3), want, 1)
	d := written(t, half, records...)
	cuts(t, "full", d, limits(3), want, pieces(packed(t, want.next().snapshot()...)...)+1)
	want = want.next()
	cuts(t, "once more", d, limits(3), want, 1)
	d = written(t, 1, []byte{1, 7})
	was := begin(4)
	was.base.Epoch = 7
	for range 5 {
		cuts(t, "a half of one", d, limits(4), was, 2)
		was = was.next()
	}
}

// Where two errors would fit, the one that the chapter names first is answered.
func TestOrderOfErrors(t *testing.T) {
	cut := func(d *block.Disk) *block.Disk {
		d.Cut()
		return d
	}
	wrong := packed(t, started(api.MaxMark), base(1, 0, 2))
	refuses(t, "clients, no journal", raw(t, 9), 0, api.ErrArg)
	refuses(t, "clients, too small", raw(t, 1), 5, api.ErrArg)
	refuses(t, "clients, wrong notes", written(t, 4, wrong...), 0, api.ErrArg)
	refuses(t, "no journal, wrong notes", unheaded(written(t, 4, wrong...)), 1, api.ErrScroll)

	conf := limits(2)
	conf.Queue = 0
	starts(t, "conf, no journal", raw(t, 9), conf, api.ErrArg)
	starts(t, "conf, wrong notes", written(t, 4, wrong...), conf, api.ErrArg)
	starts(t, "conf, no power", cut(formatted(t, 9)), conf, api.ErrArg)
	starts(t, "no journal, no power", cut(raw(t, 9)), limits(2), api.ErrScroll)
	starts(t, "wrong notes, the last epoch", written(t, 4, packed(t, base(api.MaxMark, 0, 2), base(api.MaxMark, 0, 2))...), limits(2), api.ErrRecord)
	starts(t, "wrong notes, no power", cut(written(t, 4, wrong...)), limits(2), api.ErrRecord)
	starts(t, "wrong notes, full", written(t, 2, wrong...), limits(2), api.ErrRecord)
	starts(t, "the last epoch, no power", cut(noted(t, started(api.MaxMark))), limits(2), api.ErrArg)
	great := packed(t, done(1, 1, 1, api.OK, mkdir(1, "a")), started(api.MaxMark))
	starts(t, "the last epoch, too great a snapshot", written(t, 2, great...), limits(2), api.ErrArg)
	great = packed(t, done(1, 1, 1, api.OK, mkdir(1, "a")), started(3))
	starts(t, "too great a snapshot, no power", cut(written(t, 2, great...)), limits(2), api.ErrFull)
	starts(t, "no power", cut(written(t, 3, great...)), limits(2), api.ErrPower)
	// With room the snapshot is not asked for.
	starts(t, "no power, too great a snapshot", cut(written(t, 2, great[0])), limits(2), api.ErrPower)
	last := raw(t, 5)
	last.Write(0, lastHeader())
	starts(t, "no power, the last generation", cut(last), limits(2), api.ErrPower)
}

// unheaded is a disk without its header.
func unheaded(d *block.Disk) *block.Disk {
	d.Write(0, make([]byte, api.BlockSize))
	return d
}
