package serve_test

import (
	"fmt"
	"math"
	"slices"
	"testing"

	"vista/api"
	"vista/block"
	"vista/scroll"
	"vista/serve"
	"vista/tree"
	"vista/wire"
)

// limits are those of the chapter's examples.
func limits() api.Conf {
	return api.Conf{Clients: 2, Dentries: 9, Negative: 4, Links: 3, Promises: 2, Queue: 4, Hold: 2}
}

// wide are limits that most tests do not reach.
func wide() api.Conf {
	return api.Conf{Clients: 4, Dentries: 9, Negative: 4, Links: 3, Promises: 32, Queue: 16, Hold: 2}
}

// formatted is a new disk with an empty journal.
func formatted(t *testing.T, blocks int) (*block.Disk, *scroll.Scroll) {
	t.Helper()
	d, e := block.New(blocks)
	if e != api.OK {
		t.Fatalf("a disk of %d blocks: %d", blocks, e)
	}
	if e := scroll.Format(d); e != api.OK {
		t.Fatalf("Format: %d", e)
	}
	j, _, e := scroll.Open(d)
	if e != api.OK {
		t.Fatalf("Open: %d", e)
	}
	return d, j
}

// served is a new server of epoch 1, over the empty tree and an empty journal.
func served(t *testing.T, conf api.Conf, blocks int) (*serve.Server, *block.Disk) {
	t.Helper()
	return servedWith(t, conf, blocks, tree.New(), make([]api.Seen, conf.Clients))
}

// servedWith is a new server of epoch 1 over an empty journal.
func servedWith(t *testing.T, conf api.Conf, blocks int, tr *tree.Tree, seen []api.Seen) (*serve.Server, *block.Disk) {
	t.Helper()
	d, j := formatted(t, blocks)
	s, e := serve.New(conf, j, tr, seen, 1)
	if s == nil || e != api.OK {
		t.Fatalf("New: %v, %d", s, e)
	}
	return s, d
}

// loaded is the tree of such entries.
func loaded(t *testing.T, version, next int, entries ...api.Entry) *tree.Tree {
	t.Helper()
	tr, e := tree.Load(entries, version, next)
	if e != api.OK {
		t.Fatalf("Load: %d", e)
	}
	return tr
}

func key(dir int, name string) api.Key { return api.Key{Dir: dir, Name: name} }

func dir(id, in int, name string) api.Entry {
	return api.Entry{Key: key(in, name), Node: api.Node{ID: id, Kind: api.KindDir, Mode: 7}}
}

func link(id, in int, name, target string) api.Entry {
	return api.Entry{Key: key(in, name), Node: api.Node{ID: id, Kind: api.KindLink, Target: target}}
}

func none(in int, name string) api.Entry {
	return api.Entry{Key: key(in, name), Neg: true}
}

func look(in int, name string) api.Op { return api.Op{Kind: api.OpLook, Dir: in, Name: name} }

func list(in int) api.Op { return api.Op{Kind: api.OpList, Dir: in} }

func mkdir(in int, name string) api.Op {
	return api.Op{Kind: api.OpMkdir, Dir: in, Name: name, Mode: 7}
}

func rmdir(in int, name string) api.Op { return api.Op{Kind: api.OpRmdir, Dir: in, Name: name} }

func symlink(in int, name, target string) api.Op {
	return api.Op{Kind: api.OpSymlink, Dir: in, Name: name, Target: target}
}

func rename(in int, name string, to int, other string) api.Op {
	return api.Op{Kind: api.OpRename, Dir: in, Name: name, To: to, New: other}
}

func chmod(in int, name string, mode int) api.Op {
	return api.Op{Kind: api.OpSetattr, Dir: in, Name: name, Mode: mode}
}

func syncing() api.Op { return api.Op{Kind: api.OpSync} }

func again() api.Op { return api.Op{Kind: api.OpAgain} }

func ask(client, life, seq int, m complex128, op api.Op) api.Msg {
	return api.Msg{Kind: api.MsgAsk, Client: client, Life: life, Seq: seq, Mark: m, Op: op}
}

// reply is the answer to an ask.
func reply(a api.Msg, m complex128, version int, e api.Errno, entries ...api.Entry) api.Msg {
	return api.Msg{Kind: api.MsgReply, Client: a.Client, Life: a.Life, Seq: a.Seq, Mark: m, Version: version, Err: e, Entries: entries}
}

func broken(client, life int, m complex128, version int, keys ...api.Key) api.Msg {
	return api.Msg{Kind: api.MsgBreak, Client: client, Life: life, Mark: m, Version: version, Keys: keys}
}

func flush(client, life int, m complex128, version int) api.Msg {
	return api.Msg{Kind: api.MsgFlush, Client: client, Life: life, Mark: m, Version: version}
}

// alike tells whether two messages say the same.
func alike(a, b api.Msg) bool {
	return a.Kind == b.Kind && a.Client == b.Client && a.Life == b.Life && a.Seq == b.Seq && a.Mark == b.Mark &&
		a.Version == b.Version && a.Err == b.Err && a.Op == b.Op && slices.Equal(a.Entries, b.Entries) && slices.Equal(a.Keys, b.Keys)
}

// answers fails if messages are others than these.
func answers(t *testing.T, what string, got, want []api.Msg) {
	t.Helper()
	if !slices.EqualFunc(got, want, alike) {
		t.Errorf("%s:\ngot  %v\nwant %v", what, got, want)
	}
}

// says fails if an ask is answered by other messages than these.
func says(t *testing.T, s *serve.Server, a api.Msg, want ...api.Msg) {
	t.Helper()
	got, e := s.Handle(a)
	if e != api.OK {
		t.Errorf("%v: %d", a, e)
	}
	answers(t, fmt.Sprint(a), got, want)
}

// replies fails if an ask is not answered by just this one reply.
func replies(t *testing.T, s *serve.Server, a api.Msg, m complex128, version int, e api.Errno, entries ...api.Entry) {
	t.Helper()
	says(t, s, a, reply(a, m, version, e, entries...))
}

// loses fails if an ask does not find that the power was lost.
func loses(t *testing.T, s *serve.Server, a api.Msg) {
	t.Helper()
	if got, e := s.Handle(a); e != api.ErrPower || len(got) != 0 {
		t.Errorf("%v: %v, %d", a, got, e)
	}
}

// notes are those of the journal on a disk.
func notes(t *testing.T, d *block.Disk) []api.Note {
	t.Helper()
	_, records, e := scroll.Open(d)
	if e != api.OK {
		t.Fatalf("Open: %d", e)
	}
	var all []api.Note
	for _, record := range records {
		n, e := wire.Unpack(record)
		if e != api.OK {
			t.Fatalf("the record % x: %d", record, e)
		}
		all = append(all, n)
	}
	return all
}

// holds fails if a journal has other notes than these.
func holds(t *testing.T, what string, d *block.Disk, want ...api.Note) {
	t.Helper()
	if got := notes(t, d); !slices.Equal(got, want) {
		t.Errorf("%s: the journal is\n%+v\nnot\n%+v", what, got, want)
	}
}

// done is the note of a mutation.
func done(a api.Msg, e api.Errno) api.Note {
	return api.Note{Kind: api.NoteDone, Client: a.Client, Seen: api.Seen{Life: a.Life, Seq: a.Seq, Err: e}, Op: a.Op}
}

// tells is all that a server tells of itself, and all that its disk holds, as a text.
func tells(s *serve.Server, d *block.Disk) string {
	tr := s.Tree()
	text := fmt.Sprintf("epoch %d version %d %d next %d %+v\n", s.Epoch(), s.Version(), tr.Version(), tr.Next(), tr.Dump())
	for client := -1; client <= api.MaxClients+1; client++ {
		text += fmt.Sprintf("%d: %+v %v %+v %+v\n", client, s.Seen(client), s.Mark(client), s.Promises(client), s.Queue(client))
	}
	for i := range d.Size() {
		b, _ := d.Read(i)
		text += fmt.Sprintf("% x\n", b)
	}
	return text
}

// unchanged fails if an ask has an answer, or changes anything that the server or its disk tells.
func unchanged(t *testing.T, s *serve.Server, d *block.Disk, a api.Msg) {
	t.Helper()
	before := tells(s, d)
	says(t, s, a)
	if after := tells(s, d); after != before {
		t.Errorf("%v has changed\n%s\nto\n%s", a, before, after)
	}
}

// fields are the fields of a conf, with their limits.
func fields(conf *api.Conf) []struct {
	at          *int
	least, most int
} {
	return []struct {
		at          *int
		least, most int
	}{
		{&conf.Clients, 1, 4}, {&conf.Dentries, 1, 64}, {&conf.Negative, 1, 16}, {&conf.Links, 0, 8}, {&conf.Promises, 1, 32}, {&conf.Queue, 1, 16}, {&conf.Hold, 0, 8},
	}
}

// P9.1

func TestRight(t *testing.T) {
	var least, most api.Conf
	for i := range fields(&least) {
		*fields(&least)[i].at = fields(&least)[i].least
		*fields(&most)[i].at = fields(&most)[i].most
	}
	for _, start := range []api.Conf{limits(), least, most} {
		if !serve.Right(start) {
			t.Errorf("%+v is not right", start)
		}
		for i := range fields(&start) {
			conf := start
			f := fields(&conf)[i]
			for _, n := range []int{f.least, f.least + 1, f.most - 1, f.most} {
				if *f.at = n; !serve.Right(conf) {
					t.Errorf("%+v is not right", conf)
				}
			}
			for _, n := range []int{f.least - 1, -1, f.most + 1, math.MinInt, math.MaxInt} {
				if *f.at = n; serve.Right(conf) {
					t.Errorf("%+v is right", conf)
				}
			}
		}
	}
	if serve.Right(api.Conf{}) {
		t.Error("the zero conf is right")
	}
}

func TestNewRefuses(t *testing.T) {
	_, j := formatted(t, 9)
	refuses := func(conf api.Conf, seen, epoch int) {
		t.Helper()
		if s, e := serve.New(conf, j, tree.New(), make([]api.Seen, seen), epoch); s != nil || e != api.ErrArg {
			t.Errorf("New(%+v, seen of %d, %d): %v, %d", conf, seen, epoch, s, e)
		}
	}
	for i := range fields(&api.Conf{}) {
		conf := limits()
		f := fields(&conf)[i]
		for _, n := range []int{f.least - 1, f.most + 1, math.MinInt, math.MaxInt} {
			*f.at = n
			refuses(conf, min(max(conf.Clients, 0), 5), 1)
		}
	}
	for _, clients := range []int{1, 2, 4} {
		conf := limits()
		conf.Clients = clients
		for _, seen := range []int{0, clients - 1, clients + 1, 9} {
			refuses(conf, seen, 1)
		}
		for _, epoch := range []int{-1, api.MaxMark + 1, math.MinInt, math.MaxInt} {
			refuses(conf, clients, epoch)
		}
	}
	refuses(api.Conf{}, 0, -1)
}

func TestNew(t *testing.T) {
	for _, epoch := range []int{0, 1, 7, api.MaxMark - 1, api.MaxMark} {
		for _, clients := range []int{1, 2, 3, 4} {
			conf := limits()
			conf.Clients = clients
			d, j := formatted(t, 9)
			tr := loaded(t, 5, 9, dir(2, 1, "a"), link(4, 2, "l", "x"))
			seen := []api.Seen{{}, {Life: 3, Seq: 4, Err: api.ErrExist}, {Life: 1, Seq: 1}, {Life: -5, Seq: -6, Err: -7}}[:clients]
			s, e := serve.New(conf, j, tr, seen, epoch)
			if s == nil || e != api.OK {
				t.Fatalf("New of epoch %d: %d", epoch, e)
			}
			if s.Epoch() != epoch || s.Version() != 5 {
				t.Errorf("epoch %d, version %d", s.Epoch(), s.Version())
			}
			if got := s.Tree(); !slices.Equal(got.Dump(), tr.Dump()) || got.Version() != 5 || got.Next() != 9 {
				t.Errorf("the tree is %v, version %d, next %d", got.Dump(), got.Version(), got.Next())
			}
			for client := range clients {
				if s.Seen(client+1) != seen[client] {
					t.Errorf("Seen(%d): %v", client+1, s.Seen(client+1))
				}
			}
			holds(t, "a new server", d)
			tellsNothing(t, s, math.MinInt, -1, 0, 1, 2, 3, 4, 5, math.MaxInt)
		}
	}
}

// tellsNothing fails if a server tells something of clients that have no session, or a seen of those that are none.
func tellsNothing(t *testing.T, s *serve.Server, clients ...int) {
	t.Helper()
	for _, client := range clients {
		if s.Mark(client) != 0 || len(s.Promises(client)) != 0 || len(s.Queue(client)) != 0 {
			t.Errorf("of client %d: %v, %v, %v", client, s.Mark(client), s.Promises(client), s.Queue(client))
		}
		if (client < 1 || client > api.MaxClients) && s.Seen(client) != (api.Seen{}) {
			t.Errorf("Seen(%d): %v", client, s.Seen(client))
		}
	}
}

func TestSeenOfClientsAlone(t *testing.T) {
	for clients := 1; clients <= 4; clients++ {
		conf := limits()
		conf.Clients = clients
		seen := slices.Repeat([]api.Seen{{Life: 3, Seq: 4, Err: api.ErrExist}}, clients)
		s, _ := servedWith(t, conf, 9, tree.New(), seen)
		for client := -2; client <= 6; client++ {
			want := api.Seen{}
			if client >= 1 && client <= clients {
				want = seen[0]
			}
			if s.Seen(client) != want {
				t.Errorf("of %d clients: Seen(%d): %v", clients, client, s.Seen(client))
			}
		}
	}
}

func TestTellsOfSessions(t *testing.T) {
	s, _ := served(t, limits(), 99)
	replies(t, s, ask(2, 1, 1, 1, look(1, "a")), 1, 0, api.OK, none(1, "a"))
	replies(t, s, ask(2, 1, 2, 1, look(1, "b")), 1, 0, api.OK, none(1, "b"))
	a := ask(2, 1, 3, 1, look(1, "c"))
	says(t, s, a, broken(2, 1, 1+1i, 0, key(1, "a")), reply(a, 1+1i, 0, api.OK, none(1, "c")))
	if s.Mark(2) != 1+1i {
		t.Errorf("Mark: %v", s.Mark(2))
	}
	if got := s.Promises(2); !slices.Equal(got, []api.Key{key(1, "b"), key(1, "c")}) {
		t.Errorf("Promises: %v", got)
	}
	if got := s.Queue(2); len(got) != 1 || got[0].Mark != 1+1i || got[0].Version != 0 || got[0].All || !slices.Equal(got[0].Keys, []api.Key{key(1, "a")}) {
		t.Errorf("Queue: %v", got)
	}
	tellsNothing(t, s, math.MinInt, -1, 0, 1, 3, math.MaxInt)
	// A session of a new server has a mark, of its epoch, ahead of any break.
	replies(t, s, ask(1, 1, 1, 1, syncing()), 1, 0, api.OK)
	if s.Mark(1) != 1 {
		t.Errorf("Mark: %v", s.Mark(1))
	}
}
