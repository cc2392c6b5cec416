package call_test

import (
	"math"
	"slices"
	"strings"
	"testing"

	"vista/api"
	"vista/call"
)

func key(dir int, name string) api.Key {
	return api.Key{Dir: dir, Name: name}
}

func none(dir int, name string) api.Entry {
	return api.Entry{Key: key(dir, name), Neg: true}
}

func file(dir int, name string, id int) api.Entry {
	return api.Entry{Key: key(dir, name), Node: api.Node{ID: id, Kind: api.KindFile, Mode: 7}}
}

func folder(dir int, name string, id int) api.Entry {
	return api.Entry{Key: key(dir, name), Node: api.Node{ID: id, Kind: api.KindDir, Mode: 5}}
}

func link(dir int, name string, id int, target string) api.Entry {
	return api.Entry{Key: key(dir, name), Node: api.Node{ID: id, Kind: api.KindLink, Target: target}}
}

func root() api.Node {
	return api.Node{ID: api.Root, Kind: api.KindDir}
}

// Ops.

func look(dir int, name string) api.Op { return api.Op{Kind: api.OpLook, Dir: dir, Name: name} }

func list(dir int) api.Op { return api.Op{Kind: api.OpList, Dir: dir} }

func syncs() api.Op { return api.Op{Kind: api.OpSync} }

func again() api.Op { return api.Op{Kind: api.OpAgain} }

// Messages from and to client 1 of life 1.

func ask(seq int, m complex128, op api.Op) api.Msg {
	return api.Msg{Kind: api.MsgAsk, Client: 1, Life: 1, Seq: seq, Mark: m, Op: op}
}

func broken(m complex128, version int, keys ...api.Key) api.Msg {
	return api.Msg{Kind: api.MsgBreak, Client: 1, Life: 1, Mark: m, Version: version, Keys: keys}
}

func flush(m complex128, version int) api.Msg {
	return api.Msg{Kind: api.MsgFlush, Client: 1, Life: 1, Mark: m, Version: version}
}

func reply(seq int, m complex128, version int, e api.Errno, entries ...api.Entry) api.Msg {
	return api.Msg{Kind: api.MsgReply, Client: 1, Life: 1, Seq: seq, Mark: m, Version: version, Err: e, Entries: entries}
}

// Calls.

func lookup(path string) api.Call { return api.Call{Kind: api.CallLookup, Path: path} }

func stat(path string) api.Call { return api.Call{Kind: api.CallStat, Path: path} }

func readlink(path string) api.Call { return api.Call{Kind: api.CallReadlink, Path: path} }

func readdir(path string) api.Call { return api.Call{Kind: api.CallReaddir, Path: path} }

func rename(path, other string) api.Call {
	return api.Call{Kind: api.CallRename, Path: path, Other: other}
}

func symlink(path, target string) api.Call {
	return api.Call{Kind: api.CallSymlink, Path: path, Other: target}
}

func create(path string, mode int) api.Call {
	return api.Call{Kind: api.CallCreate, Path: path, Mode: mode}
}

func unlink(path string) api.Call { return api.Call{Kind: api.CallUnlink, Path: path} }

// mutations are the kinds of calls that change the tree.
func mutations() []int {
	return []int{api.CallCreate, api.CallMkdir, api.CallSymlink, api.CallUnlink, api.CallRmdir, api.CallRename, api.CallSetattr}
}

// Answers.

func fails(e api.Errno, version int) api.Answer { return api.Answer{Err: e, Version: version} }

func finds(n api.Node, version int) api.Answer { return api.Answer{Node: n, Version: version} }

func tells(version int, names ...string) api.Answer {
	return api.Answer{Names: names, Version: version}
}

// likeMsg tells whether two messages say the same.
func likeMsg(a, b api.Msg) bool {
	return a.Kind == b.Kind && a.Client == b.Client && a.Life == b.Life && a.Seq == b.Seq && a.Mark == b.Mark &&
		a.Version == b.Version && a.Err == b.Err && a.Op == b.Op &&
		slices.Equal(a.Entries, b.Entries) && slices.Equal(a.Keys, b.Keys)
}

// likeAnswer tells whether two answers say the same.
func likeAnswer(a, b api.Answer) bool {
	return a.Err == b.Err && a.Node == b.Node && slices.Equal(a.Names, b.Names) && a.Version == b.Version
}

// outcome is what Start and Take tell.
type outcome struct {
	out    []api.Msg
	done   bool
	answer api.Answer
}

func of(out []api.Msg, done bool, answer api.Answer) outcome {
	return outcome{out, done, answer}
}

// like tells whether two outcomes say the same.
func (o outcome) like(other outcome) bool {
	return slices.EqualFunc(o.out, other.out, likeMsg) && o.done == other.done && likeAnswer(o.answer, other.answer)
}

// sends fails if what was told is anything but these messages.
func (o outcome) sends(t *testing.T, want ...api.Msg) {
	t.Helper()
	if !o.like(outcome{out: want}) {
		t.Errorf("%+v; it should send %+v", o, want)
	}
}

// ends fails if what was told is anything but this answer.
func (o outcome) ends(t *testing.T, want api.Answer) {
	t.Helper()
	if !o.like(outcome{done: true, answer: want}) {
		t.Errorf("%+v; it should answer %+v", o, want)
	}
}

// limits are those of most tests.
func limits() api.Conf {
	return api.Conf{Clients: 2, Dentries: 9, Negative: 4, Links: 3, Promises: 2, Queue: 4, Hold: 2}
}

// client is a new one, number 1 of life 1.
func client(t *testing.T, conf api.Conf) *call.Client {
	t.Helper()
	c, e := call.New(1, 1, conf)
	if c == nil || e != api.OK {
		t.Fatalf("New(1, 1, %+v): %v, %d", conf, c, e)
	}
	return c
}

// teach lets a client of mark m and the version learn entries, the one that is used last at the end: each by a mutation's reply, which takes a Seq.
func teach(t *testing.T, c *call.Client, m complex128, version int, entries ...api.Entry) {
	t.Helper()
	for _, e := range entries {
		out, done, answer := c.Start(unlink("/x"))
		if done || len(out) != 1 {
			t.Fatalf("%v, %v", out, answer)
		}
		of(c.Take(reply(out[0].Seq, m, version, api.OK, e))).ends(t, fails(api.OK, version))
	}
}

// knows is a client of mark 1 and version 5 that has learned entries, one Seq for each.
func knows(t *testing.T, conf api.Conf, entries ...api.Entry) *call.Client {
	t.Helper()
	c := client(t, conf)
	of(c.Take(flush(1, 0))).sends(t)
	teach(t, c, 1, 5, entries...)
	return c
}

// holds fails if a client's cache has others than these entries, the one longest unused first.
func holds(t *testing.T, c *call.Client, want ...api.Entry) {
	t.Helper()
	if got := c.Entries(); !slices.Equal(got, want) {
		t.Errorf("cached: %v, not %v", got, want)
	}
}

// stands fails if a client tells something else than this of itself.
func stands(t *testing.T, c *call.Client, m complex128, version int, busy bool, held int) {
	t.Helper()
	if c.Mark() != m || c.Version() != version || c.Busy() != busy || c.Held() != held {
		t.Errorf("mark %v, version %d, busy %v, %d held; not %v, %d, %v, %d", c.Mark(), c.Version(), c.Busy(), c.Held(), m, version, busy, held)
	}
}

// wholes fails if other directories of those from -1 to 12 are whole than these.
func wholes(t *testing.T, c *call.Client, want ...int) {
	t.Helper()
	for dir := -1; dir <= 12; dir++ {
		if c.Whole(dir) != slices.Contains(want, dir) {
			t.Errorf("Whole(%d): %v", dir, c.Whole(dir))
		}
	}
}

// The chapter's examples, in full.
func TestExamples(t *testing.T) {
	c := client(t, limits())
	of(c.Start(lookup("/a"))).sends(t, ask(1, 0, look(1, "a")))
	of(c.Take(reply(1, 1, 0, api.ErrEpoch))).sends(t, ask(1, 1, look(1, "a")))
	of(c.Take(reply(1, 1, 3, api.OK, none(1, "a")))).ends(t, fails(api.ErrNotFound, 3))
	of(c.Start(lookup("/a/b"))).ends(t, fails(api.ErrNotFound, 3))
	of(c.Start(readdir("/"))).sends(t, ask(2, 1, list(1)))
	of(c.Start(api.Call{Kind: api.CallSync})).ends(t, fails(api.ErrBusy, 3))
	if done, answer := c.Cancel(); !done || !likeAnswer(answer, fails(api.ErrCancelled, 3)) {
		t.Errorf("Cancel: %v, %v", done, answer)
	}
}

// P15.1

// A client that has seen nothing.
func TestNew(t *testing.T) {
	conf := limits()
	conf.Clients = api.MaxClients
	for _, id := range []int{1, 2, api.MaxClients} {
		for _, life := range []int{1, 2, api.MaxMark - 1, api.MaxMark} {
			c, e := call.New(id, life, conf)
			if c == nil || e != api.OK {
				t.Fatalf("New(%d, %d): %v, %d", id, life, c, e)
			}
			stands(t, c, 0, 0, false, 0)
			holds(t, c)
			wholes(t, c)
			if out := c.Tick(); len(out) != 0 {
				t.Errorf("Tick: %v", out)
			}
			if done, answer := c.Cancel(); done || !likeAnswer(answer, api.Answer{}) {
				t.Errorf("Cancel: %v, %v", done, answer)
			}
			// It speaks as this client, of this life, and hears what is for it alone.
			m := ask(1, 0, syncs())
			m.Client, m.Life = id, life
			of(c.Start(api.Call{Kind: api.CallSync})).sends(t, m)
			answer := reply(1, 1, 4, api.OK)
			for _, to := range [][2]int{{id + 1, life}, {id - 1, life}, {id, life + 1}, {id, life - 1}, {life, id}} {
				if answer.Client, answer.Life = to[0], to[1]; to != [2]int{id, life} {
					of(c.Take(answer)).sends(t)
				}
			}
			stands(t, c, 0, 0, true, 0)
			answer.Client, answer.Life = id, life
			of(c.Take(answer)).ends(t, fails(api.OK, 4))
			stands(t, c, 1, 4, false, 0)
		}
	}
}

func TestNewRefuses(t *testing.T) {
	conf := limits()
	for _, x := range [][2]int{
		{0, 1}, {-1, 1}, {3, 1}, {api.MaxClients, 1}, {api.MaxClients + 1, 1}, {math.MinInt, 1}, {math.MaxInt, 1},
		{1, 0}, {1, -1}, {1, api.MaxMark + 1}, {1, math.MinInt}, {1, math.MaxInt}, {0, 0}, {3, 0},
	} {
		if c, e := call.New(x[0], x[1], conf); c != nil || e != api.ErrArg {
			t.Errorf("New(%d, %d): %v, %d", x[0], x[1], c, e)
		}
	}
	if c, e := call.New(1, 1, api.Conf{}); c != nil || e != api.ErrArg {
		t.Errorf("New of no limits: %v, %d", c, e)
	}
}

// Each limit at its least and its most, and one beyond.
func TestNewOfEachLimit(t *testing.T) {
	least := api.Conf{Clients: 1, Dentries: 1, Negative: 1, Promises: 1, Queue: 1}
	most := api.Conf{Clients: api.MaxClients, Dentries: api.MaxDentries, Negative: api.MaxNegative, Links: api.MaxLinks, Promises: api.MaxPromises, Queue: api.MaxQueue, Hold: api.MaxHold}
	for _, begin := range []api.Conf{least, most, limits()} {
		conf := begin
		for i, x := range []struct {
			at          *int
			least, most int
		}{
			{&conf.Clients, 1, api.MaxClients}, {&conf.Dentries, 1, api.MaxDentries}, {&conf.Negative, 1, api.MaxNegative},
			{&conf.Links, 0, api.MaxLinks}, {&conf.Promises, 1, api.MaxPromises}, {&conf.Queue, 1, api.MaxQueue}, {&conf.Hold, 0, api.MaxHold},
		} {
			conf = begin
			for _, n := range []int{x.least, x.least + 1, x.most - 1, x.most} {
				*x.at = n
				client(t, conf)
			}
			for _, n := range []int{math.MinInt, -1, x.least - 1, x.most + 1, math.MaxInt} {
				*x.at = n
				if c, e := call.New(1, 1, conf); c != nil || e != api.ErrArg {
					t.Errorf("limit %d as %d: %v, %d", i, n, c, e)
				}
			}
		}
	}
	// The client's number is held against how many there are.
	for clients := 1; clients <= api.MaxClients; clients++ {
		conf := limits()
		conf.Clients = clients
		for id := -1; id <= api.MaxClients+1; id++ {
			want := api.OK
			if id < 1 || id > clients {
				want = api.ErrArg
			}
			if c, e := call.New(id, 1, conf); e != want || (c != nil) != (e == api.OK) {
				t.Errorf("New(%d) of %d clients: %v, %d", id, clients, c, e)
			}
		}
	}
}

// Each of the limits is the one that is kept to.
func TestEachLimitCounts(t *testing.T) {
	conf := api.Conf{Clients: 1, Dentries: 3, Negative: 2, Links: 1, Promises: 1, Queue: 1, Hold: 1}
	c := knows(t, conf, none(1, "a"), none(1, "b"), none(1, "c"), file(1, "d", 2))
	holds(t, c, none(1, "b"), none(1, "c"), file(1, "d", 2))
	teach(t, c, 1, 5, file(1, "e", 3))
	holds(t, c, none(1, "c"), file(1, "d", 2), file(1, "e", 3))
	c.Take(broken(1+3i, 6))
	stands(t, c, 1, 5, false, 1)
	c.Take(broken(1+4i, 6))
	stands(t, c, 1, 5, false, 1)
	c = knows(t, conf, link(1, "l", 2, "m"), link(1, "m", 3, "f"), file(1, "f", 4))
	of(c.Start(lookup("/m"))).ends(t, finds(file(1, "f", 4).Node, 5))
	of(c.Start(lookup("/l"))).ends(t, fails(api.ErrLoop, 5))
}

// Version and Mark are the tide's: of breaks, flushes and replies.
func TestVersionAndMark(t *testing.T) {
	c := client(t, limits())
	c.Take(broken(1+1i, 4))
	stands(t, c, 1+1i, 4, false, 0)
	c.Take(broken(1+2i, 3))
	stands(t, c, 1+2i, 4, false, 0)
	c.Take(broken(1+4i, 9))
	stands(t, c, 1+2i, 4, false, 1)
	c.Take(flush(1+3i, 5))
	stands(t, c, 1+4i, 9, false, 0)
	of(c.Start(api.Call{Kind: api.CallSync})).sends(t, ask(1, 1+4i, syncs()))
	of(c.Take(reply(1, 1+4i, 12, api.OK))).ends(t, fails(api.OK, 12))
	of(c.Start(lookup("no path"))).ends(t, fails(api.ErrPath, 12))
	c.Take(flush(3+2i, 1))
	stands(t, c, 3+2i, 12, false, 0)
}

// Too long names and paths are told of without a message, whatever is cached.
func TestTooLong(t *testing.T) {
	long, deep := "/"+strings.Repeat("x", api.MaxName+1), "/"+strings.Repeat("x/", api.MaxPath/2)
	for _, c := range []*call.Client{client(t, limits()), knows(t, limits(), folder(1, "d", 2))} {
		version := c.Version()
		for kind := api.CallLookup; kind <= api.CallSetattr; kind++ {
			of(c.Start(api.Call{Kind: kind, Path: long, Other: "/x"})).ends(t, fails(api.ErrNameTooLong, version))
			of(c.Start(api.Call{Kind: kind, Path: "/d" + long + "/a", Other: "/x"})).ends(t, fails(api.ErrNameTooLong, version))
			of(c.Start(api.Call{Kind: kind, Path: deep, Other: "/x"})).ends(t, fails(api.ErrPathTooLong, version))
		}
		of(c.Start(rename("/x", long))).ends(t, fails(api.ErrNameTooLong, version))
		of(c.Start(rename("/x", deep))).ends(t, fails(api.ErrPathTooLong, version))
		of(c.Start(symlink("/x", long))).ends(t, fails(api.ErrNameTooLong, version))
		of(c.Start(symlink("/x", deep))).ends(t, fails(api.ErrPathTooLong, version))
	}
}
