package serve_test

import (
	"fmt"
	"slices"
	"testing"

	"vista/api"
	"vista/serve"
	"vista/tree"
)

// R3

// spoil writes over a list, its spare room too.
func spoil[T any](items []T, with T) {
	all := items[:cap(items)]
	for i := range all {
		all[i] = with
	}
}

func spoilLists(m api.Msg) {
	spoil(m.Entries, dir(-77, -77, "spoilt"))
	spoil(m.Keys, key(-77, "spoilt"))
}

// ruin writes over messages, and over all that they hold.
func ruin(messages []api.Msg) {
	for _, m := range messages {
		spoilLists(m)
	}
	spoil(messages, api.Msg{Kind: -77, Keys: []api.Key{key(-77, "ruined")}})
}

func TestAsksAreNeitherChangedNorKept(t *testing.T) {
	for _, op := range everyOp() {
		s, d := begun(t)
		other, e := begun(t)
		entries := []api.Entry{dir(2, 1, "a"), none(1, "b"), dir(9, 9, "spare"), none(9, "room")}
		keys := []api.Key{key(1, "a"), key(1, ""), key(9, "spare"), key(9, "room")}
		a := ask(1, 3, 6, 1, op)
		want, _ := other.Handle(a)
		a.Entries, a.Keys = entries[:2], keys[:2]
		wantEntries, wantKeys := slices.Clone(entries), slices.Clone(keys)
		got, _ := s.Handle(a)
		if !slices.Equal(entries, wantEntries) || !slices.Equal(keys, wantKeys) {
			t.Errorf("%v: the ask was changed to %v, %v", op, entries, keys)
		}
		spoil(entries, dir(-77, -77, "spoilt"))
		spoil(keys, key(-77, "spoilt"))
		answers(t, fmt.Sprint(op), got, want)
		if tells(s, d) != tells(other, e) {
			t.Errorf("%v: the ask was kept", op)
		}
	}
}

func TestTheTreeIsCopied(t *testing.T) {
	tr := loaded(t, 2, 4, dir(2, 1, "a"), link(3, 1, "l", "x"))
	s, d := servedWith(t, limits(), 99, tr, make([]api.Seen, 2))
	before := tells(s, d)
	tr.Apply(mkdir(1, "b"))
	tr.Apply(rmdir(1, "a"))
	if tells(s, d) != before {
		t.Error("the server's tree has changed with that which was handed in")
	}
	keeps(t, s, ask(1, 1, 1, 1, chmod(1, "a", 1)), api.OK)
	keeps(t, s, ask(1, 1, 2, 1, mkdir(1, "c")), api.OK)
	if tr.Version() != 4 || !slices.Equal(tr.Dump(), []api.Entry{dir(4, 1, "b"), link(3, 1, "l", "x")}) {
		t.Errorf("the tree that was handed in is %d, %v", tr.Version(), tr.Dump())
	}
	// Nor is the one that is told.
	before = tells(s, d)
	told := s.Tree()
	told.Apply(mkdir(1, "d"))
	if tells(s, d) != before {
		t.Error("the server's tree has changed with that which was told")
	}
	told = s.Tree()
	dump := told.Dump()
	keeps(t, s, ask(1, 1, 3, 1, rmdir(1, "c")), api.OK)
	if !slices.Equal(told.Dump(), dump) {
		t.Error("the tree that was told has changed with the server's")
	}
}

func TestSeenIsNeitherChangedNorKept(t *testing.T) {
	seen := []api.Seen{{Life: 1, Seq: 1}, {Life: 2, Seq: 2, Err: api.ErrExist}, {Life: 7, Seq: 7}, {Life: 8, Seq: 8}}
	want := slices.Clone(seen)
	s, d := servedWith(t, limits(), 99, tree.New(), seen[:2])
	keeps(t, s, ask(1, 3, 1, 1, mkdir(1, "a")), api.OK)
	keeps(t, s, ask(2, 3, 1, 1, mkdir(1, "b")), api.OK)
	if !slices.Equal(seen, want) {
		t.Errorf("seen was changed to %v", seen)
	}
	before := tells(s, d)
	spoil(seen, api.Seen{Life: 99, Seq: 99})
	if tells(s, d) != before {
		t.Error("seen was kept")
	}
}

// crowd is a server of which each client was promised the root's names, and 1 some more, with breaks in its queue.
func crowd(t *testing.T) *serve.Server {
	t.Helper()
	conf := wide()
	conf.Promises = 3
	s, _ := servedWith(t, conf, 99, loaded(t, 0, 5, dir(2, 1, "a"), dir(3, 1, "b"), dir(4, 2, "c")), make([]api.Seen, 4))
	for client := 1; client <= 4; client++ {
		replies(t, s, ask(client, 1, 1, 1, list(1)), 1, 0, api.OK, dir(2, 1, "a"), dir(3, 1, "b"))
		replies(t, s, ask(client, 1, 2, 1, list(2)), 1, 0, api.OK, dir(4, 2, "c"))
	}
	return s
}

// script is asks whose answers have many lists.
func script() []api.Msg {
	return []api.Msg{
		ask(1, 1, 3, 1, look(1, "a")), ask(2, 1, 3, 1, rename(1, "b", 2, "b")), ask(1, 1, 4, 1, list(1)), ask(1, 1, 5, 1, list(2)), ask(1, 1, 6, 1, look(2, "b")),
		ask(1, 1, 7, 1, again()), ask(3, 1, 3, 1, rename(2, "b", 1, "c")), ask(3, 1, 4, 1, chmod(1, "a", 1)), ask(1, 1, 8, 1+1i, again()),
		ask(4, 1, 3, 1, list(2)), ask(4, 1, 4, 1, look(2, "zz")), ask(4, 1, 4, 1, look(1, "c")), ask(4, 1, 5, 1, mkdir(2, "z")), ask(2, 1, 9, 1, again()), ask(4, 1, 6, 1, list(2)),
	}
}

func TestAnswersAreNewMemory(t *testing.T) {
	one, other := crowd(t), crowd(t)
	var kept, want [][]api.Msg
	for _, a := range script() {
		got, _ := one.Handle(a)
		right, _ := other.Handle(a)
		answers(t, fmt.Sprint(a), got, right)
		for client := 1; client <= 4; client++ {
			spoil(one.Promises(client), key(-77, "spoilt"))
			queue := one.Queue(client)
			for _, b := range queue {
				spoil(b.Keys, key(-77, "spoilt"))
			}
			spoil(queue, api.Break{Version: -77, All: true})
			if !slices.Equal(one.Promises(client), other.Promises(client)) || fmt.Sprint(one.Queue(client)) != fmt.Sprint(other.Queue(client)) {
				t.Errorf("behind %v: client %d: %v, %v, not %v, %v", a, client, one.Promises(client), one.Queue(client), other.Promises(client), other.Queue(client))
			}
		}
		ruin(got)
		again, _ := other.Handle(ask(1, 1, 1, 1, api.Op{Kind: api.OpAgain}))
		kept, want = append(kept, right, again), append(want, copied(right), copied(again))
		one.Handle(ask(1, 1, 1, 1, api.Op{Kind: api.OpAgain}))
	}
	if fmt.Sprint(one.Tree().Dump(), one.Version()) != fmt.Sprint(other.Tree().Dump(), other.Version()) {
		t.Error("the trees are not the same")
	}
	// What was told stays as it is, while the server goes on.
	for i := range kept {
		answers(t, "told long ago", kept[i], want[i])
	}
}

// copied are messages in new memory.
func copied(messages []api.Msg) []api.Msg {
	others := slices.Clone(messages)
	for i := range others {
		others[i].Entries, others[i].Keys = slices.Clone(others[i].Entries), slices.Clone(others[i].Keys)
	}
	return others
}

func TestListsOfOneAnswerShareNothing(t *testing.T) {
	s := crowd(t)
	lists := 0
	for _, a := range script() {
		got, _ := s.Handle(a)
		want := copied(got)
		for i := range got {
			lists += min(len(got[i].Entries)+len(got[i].Keys), 1)
			spoilLists(got[i])
			answers(t, fmt.Sprint(a), got[i+1:], want[i+1:])
		}
	}
	if lists < 30 {
		t.Errorf("%d lists alone", lists)
	}
	for client := 1; client <= 4; client++ {
		queue := s.Queue(client)
		want := s.Queue(client)
		for i := range queue {
			spoil(queue[i].Keys, key(-77, "spoilt"))
			if fmt.Sprint(queue[i+1:]) != fmt.Sprint(want[i+1:]) {
				t.Errorf("the breaks of %d share memory", client)
			}
		}
	}
}

// The journal stays the caller's: it can be asked and used on.
func TestTheJournalIsUsedAsItIs(t *testing.T) {
	d, j := formatted(t, 21)
	s, _ := serve.New(limits(), j, tree.New(), make([]api.Seen, 2), 1)
	a, b := ask(1, 1, 1, 1, mkdir(1, "a")), ask(1, 1, 2, 1, mkdir(1, "b"))
	keeps(t, s, a, api.OK)
	if j.Room() != 9 {
		t.Errorf("room %d", j.Room())
	}
	if e := j.Append([]byte{api.NoteBoot, 9}); e != api.OK {
		t.Errorf("Append: %d", e)
	}
	keeps(t, s, b, api.OK)
	holds(t, "both", d, done(a, api.OK), boot(9), done(b, api.OK))
}
