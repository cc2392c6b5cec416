package tide_test

import (
	"math"
	"slices"
	"testing"

	"vista/api"
	"vista/tide"
)

func key(dir int, name string) api.Key {
	return api.Key{Dir: dir, Name: name}
}

func none(dir int, name string) api.Entry {
	return api.Entry{Key: key(dir, name), Neg: true}
}

func file(dir int, name string, id int) api.Entry {
	return api.Entry{Key: key(dir, name), Node: api.Node{ID: id, Kind: api.KindFile, Mode: 7}}
}

// Messages to client 1 of life 1.

func broken(m complex128, version int, keys ...api.Key) api.Msg {
	return api.Msg{Kind: api.MsgBreak, Client: 1, Life: 1, Mark: m, Version: version, Keys: keys}
}

func flush(m complex128, version int) api.Msg {
	return api.Msg{Kind: api.MsgFlush, Client: 1, Life: 1, Mark: m, Version: version}
}

func reply(seq int, m complex128, version int, e api.Errno, entries ...api.Entry) api.Msg {
	return api.Msg{Kind: api.MsgReply, Client: 1, Life: 1, Seq: seq, Mark: m, Version: version, Err: e, Entries: entries}
}

// Acts.

func forgets(keys ...api.Key) api.Act { return api.Act{Keys: keys} }

func all() api.Act { return api.Act{All: true} }

func again() api.Act { return api.Act{Again: true} }

func whole(e api.Errno, entries ...api.Entry) api.Act {
	return api.Act{Reply: true, Whole: true, Err: e, Entries: entries}
}

func part(e api.Errno, entries ...api.Entry) api.Act {
	return api.Act{Reply: true, Err: e, Entries: entries}
}

// likeAct tells whether two acts say the same.
func likeAct(a, b api.Act) bool {
	return a.All == b.All && a.Again == b.Again && a.Reply == b.Reply && a.Whole == b.Whole && a.Err == b.Err &&
		slices.Equal(a.Keys, b.Keys) && slices.Equal(a.Entries, b.Entries)
}

// likeMsg tells whether two messages say the same.
func likeMsg(a, b api.Msg) bool {
	return a.Kind == b.Kind && a.Client == b.Client && a.Life == b.Life && a.Seq == b.Seq && a.Mark == b.Mark &&
		a.Version == b.Version && a.Err == b.Err && a.Op == b.Op &&
		slices.Equal(a.Entries, b.Entries) && slices.Equal(a.Keys, b.Keys)
}

// client is a new tide of client 1, life 1.
func client(t *testing.T, hold int) *tide.Tide {
	t.Helper()
	x, e := tide.New(1, 1, hold)
	if x == nil || e != api.OK {
		t.Fatalf("New(1, 1, %d): %v, %d", hold, x, e)
	}
	return x
}

// at is a new tide that has come to a mark by a flush of version 0.
func at(t *testing.T, hold int, m complex128) *tide.Tide {
	t.Helper()
	x := client(t, hold)
	x.Take(flush(m, 0))
	if x.Mark() != m {
		t.Fatalf("mark %v, not %v", x.Mark(), m)
	}
	return x
}

// does fails if a message makes other acts than these.
func does(t *testing.T, x *tide.Tide, m api.Msg, want ...api.Act) {
	t.Helper()
	if got := x.Take(m); !slices.EqualFunc(got, want, likeAct) {
		t.Errorf("Take(%v): acts %v, not %v", m, got, want)
	}
}

// stands fails if a tide tells something else than this.
func stands(t *testing.T, x *tide.Tide, m complex128, version, asked int, held ...api.Msg) {
	t.Helper()
	if x.Mark() != m || x.Version() != version || x.Asked() != asked {
		t.Errorf("mark %v, version %d, asked %d; not %v, %d, %d", x.Mark(), x.Version(), x.Asked(), m, version, asked)
	}
	if got := x.Held(); !slices.EqualFunc(got, held, likeMsg) {
		t.Errorf("held: %v, not %v", got, held)
	}
}

// P11.1

func TestNew(t *testing.T) {
	for _, who := range []int{1, 2, api.MaxClients} {
		for _, life := range []int{1, 2, api.MaxMark - 1, api.MaxMark} {
			for _, hold := range []int{0, 1, api.MaxHold} {
				x, e := tide.New(who, life, hold)
				if x == nil || e != api.OK {
					t.Fatalf("New(%d, %d, %d): %v, %d", who, life, hold, x, e)
				}
				stands(t, x, 0, 0, 0)
				// It is just this client, and just this life, of which messages count.
				m := flush(1+1i, 3)
				for _, to := range [][2]int{{who + 1, life}, {who - 1, life}, {who, life + 1}, {who, life - 1}, {life, who}} {
					if m.Client, m.Life = to[0], to[1]; to != [2]int{who, life} {
						does(t, x, m)
					}
				}
				stands(t, x, 0, 0, 0)
				m.Client, m.Life = who, life
				does(t, x, m, all(), all())
				stands(t, x, 1+1i, 3, 0)
			}
		}
	}
}

func TestNewRefuses(t *testing.T) {
	for _, x := range [][3]int{
		{0, 1, 1}, {-1, 1, 1}, {api.MaxClients + 1, 1, 1}, {math.MinInt, 1, 1}, {math.MaxInt, 1, 1},
		{1, 0, 1}, {1, -1, 1}, {1, api.MaxMark + 1, 1}, {1, math.MinInt, 1}, {1, math.MaxInt, 1},
		{1, 1, -1}, {1, 1, api.MaxHold + 1}, {1, 1, math.MinInt}, {1, 1, math.MaxInt},
		{0, 0, -1}, {0, 0, 0}, {1, 0, api.MaxHold + 1}, {0, 1, -1},
	} {
		if got, e := tide.New(x[0], x[1], x[2]); got != nil || e != api.ErrArg {
			t.Errorf("New(%d, %d, %d): %v, %d", x[0], x[1], x[2], got, e)
		}
	}
}

func TestAsk(t *testing.T) {
	x := client(t, 2)
	for _, seq := range []int{1, 7, 7, 3, api.MaxMark, math.MaxInt} {
		x.Ask(seq)
		stands(t, x, 0, 0, seq)
		for _, no := range []int{0, -1, -7, math.MinInt} {
			x.Ask(no)
			stands(t, x, 0, 0, 0)
			x.Ask(seq)
		}
	}
}

func TestAskOfNoneIsAnsweredByNothing(t *testing.T) {
	for _, no := range []int{0, -1, -7, math.MinInt} {
		x := at(t, 2, 1+3i)
		x.Ask(5)
		x.Ask(no)
		for _, seq := range []int{0, no, -no, 5, 1} {
			does(t, x, reply(seq, 1+3i, 9, api.OK, none(1, "a")))
			does(t, x, reply(seq, 1+2i, 9, api.ErrEpoch))
			does(t, x, reply(seq, 1+4i, 9, api.OK))
		}
		stands(t, x, 1+3i, 0, 0)
	}
}

func TestAskLetsRepliesOfOthersGo(t *testing.T) {
	one, two := reply(5, 1+2i, 4, api.OK, none(1, "a")), reply(5, 1+4i, 6, api.ErrStale)
	early := broken(1+4i, 6, key(1, "b"))
	for _, seq := range []int{5, 4, 6, 0, -5, math.MinInt} {
		x := at(t, 8, 1)
		x.Ask(5)
		does(t, x, one)
		does(t, x, early)
		does(t, x, two)
		stands(t, x, 1, 0, 5, one, early, two)
		x.Ask(seq)
		if seq == 5 {
			stands(t, x, 1, 0, 5, one, early, two)
		} else {
			stands(t, x, 1, 0, max(seq, 0), early)
		}
		// A reply that was let go is not used, though its Seq is asked again.
		x.Ask(5)
		want := []api.Act{all(), forgets(key(1, "b"))}
		if seq == 5 {
			want = append(want, part(api.OK))
		}
		does(t, x, flush(1+3i, 5), want...)
	}
}

func TestAskMakesRoom(t *testing.T) {
	x := at(t, 1, 1)
	x.Ask(5)
	does(t, x, reply(5, 1+2i, 4, api.OK))
	does(t, x, broken(1+2i, 4, key(1, "b")))
	stands(t, x, 1, 0, 5, reply(5, 1+2i, 4, api.OK))
	x.Ask(6)
	does(t, x, broken(1+2i, 4, key(1, "b")))
	stands(t, x, 1, 0, 6, broken(1+2i, 4, key(1, "b")))
}

// What was applied ahead of an Ask is not fresh behind it, of the same Seq neither.
func TestAskMakesNothingFresh(t *testing.T) {
	for _, seq := range []int{5, 6} {
		for _, m := range []api.Msg{broken(1+2i, 1, key(1, "a")), broken(1+2i, 1, key(1, "")), flush(1+2i, 1)} {
			x := at(t, 2, 1+1i)
			x.Ask(5)
			x.Take(m)
			x.Ask(seq)
			does(t, x, reply(seq, 1, 0, api.OK, none(1, "a")), whole(api.OK, none(1, "a")))
		}
	}
}

func TestHeldTellsTheLongestHeldFirst(t *testing.T) {
	x := at(t, 8, 1)
	x.Ask(3)
	var held []api.Msg
	for _, m := range []api.Msg{
		broken(1+9i, 9, key(1, "i")), reply(3, 1+8i, 8, api.OK, file(1, "h", 4), none(2, "")), broken(1+2i, 2),
		reply(3, 1+9i, 1, api.ErrEpoch), broken(1+7i, -7, key(0, ""), key(0, "")), reply(3, 1+1i, 5, 1000, none(1, "a")),
		broken(1+api.MaxMark*1i, math.MaxInt, key(-1, "\xff")), broken(1+3i, math.MinInt, key(1, "c")),
	} {
		does(t, x, m)
		held = append(held, m)
		stands(t, x, 1, 0, 3, held...)
	}
}

// What a message has beside its kind's fields is told too.
func TestHeldTellsWholeMessages(t *testing.T) {
	x := at(t, 8, 1)
	x.Ask(3)
	m := broken(1+5i, 2, key(1, "a"))
	m.Seq, m.Err, m.Op, m.Entries = 9, api.ErrLoop, api.Op{Kind: api.OpRename, Dir: 1, Name: "n", To: 2, New: "o", Mode: 3, Target: "t"}, []api.Entry{none(1, "a")}
	r := m
	r.Kind, r.Seq = api.MsgReply, 3
	does(t, x, m)
	does(t, x, r)
	stands(t, x, 1, 0, 3, m, r)
}

func TestExample(t *testing.T) {
	x := client(t, 2)
	does(t, x, broken(1+2i, 5, key(1, "a")), all())
	stands(t, x, 1, 0, 0, broken(1+2i, 5, key(1, "a")))
	does(t, x, broken(1+1i, 4, key(1, "b")), forgets(key(1, "b")), forgets(key(1, "a")))
	stands(t, x, 1+2i, 5, 0)
	x.Ask(7)
	does(t, x, broken(1+3i, 6, key(2, "x")), forgets(key(2, "x")))
	stands(t, x, 1+3i, 6, 7)
	does(t, x, reply(7, 1+2i, 5, api.OK, none(2, "x"), none(1, "y")), part(api.OK, none(1, "y")))
	stands(t, x, 1+3i, 6, 0)
	does(t, x, reply(7, 1+2i, 5, api.OK, none(2, "x"), none(1, "y")))
	stands(t, x, 1+3i, 6, 0)
	does(t, x, reply(8, 2, 9, api.ErrEpoch), all())
	stands(t, x, 2, 6, 0)
}
