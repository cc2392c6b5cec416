package serve_test

import (
	"fmt"
	"math"
	"slices"
	"strings"
	"testing"

	"vista/api"
	"vista/block"
	"vista/serve"
	"vista/tree"
)

// P9.2

func TestExample(t *testing.T) {
	s, _ := served(t, limits(), 99)
	replies(t, s, ask(1, 1, 1, 0, look(1, "a")), 1, 0, api.ErrEpoch)
	replies(t, s, ask(1, 1, 1, 1, look(1, "a")), 1, 0, api.OK, none(1, "a"))
	made := ask(2, 1, 1, 1, mkdir(1, "a"))
	says(t, s, made, broken(1, 1, 1+1i, 1, key(1, "a")), reply(made, 1, 1, api.OK, dir(2, 1, "a")))
	replies(t, s, made, 1, 1, api.OK)
	says(t, s, ask(1, 1, 2, 1+1i, again()))
	replies(t, s, ask(1, 1, 1, 1+1i, look(1, "a")), 1+1i, 1, api.OK, dir(2, 1, "a"))
	replies(t, s, ask(1, 1, 3, 1+1i, syncing()), 1+1i, 1, api.OK)
	says(t, s, ask(1, 1, 2, 1+1i, syncing()))
}

// everyOp are ops of all kinds, and of some that are none.
func everyOp() []api.Op {
	return []api.Op{
		look(1, "a"), look(9, "a"), list(1), syncing(), again(),
		{Kind: api.OpCreate, Dir: 1, Name: "new", Mode: 7}, mkdir(1, "new"), symlink(1, "new", "x"), {Kind: api.OpUnlink, Dir: 1, Name: "l"},
		rmdir(1, "a"), rename(1, "a", 1, "b"), chmod(1, "a", 3), chmod(1, "none", 3),
		{}, {Kind: -1}, {Kind: api.OpSetattr + 1, Dir: 1, Name: "a"}, {Kind: math.MaxInt}, {Kind: math.MinInt},
	}
}

// begun is a server with some nodes, of whose clients 1 is at life 3 and Seq 5 with two promises and two breaks, and 2 has not asked.
func begun(t *testing.T) (*serve.Server, *block.Disk) {
	t.Helper()
	s, d := servedWith(t, limits(), 99, loaded(t, 2, 4, dir(2, 1, "a"), link(3, 1, "l", "x")), make([]api.Seen, 2))
	for i, name := range []string{"p", "q", "a", "l"} {
		if _, e := s.Handle(ask(1, 3, 2+i, 1, look(1, name))); e != api.OK {
			t.Fatalf("Handle: %d", e)
		}
	}
	if s.Mark(1) != 1+2i || len(s.Promises(1)) != 2 || len(s.Queue(1)) != 2 {
		t.Fatalf("%v, %v, %v", s.Mark(1), s.Promises(1), s.Queue(1))
	}
	return s, d
}

func TestIgnored(t *testing.T) {
	for _, op := range everyOp() {
		for _, client := range []int{1, 2} {
			good := ask(client, 4, 6, 1, op)
			for i, spoil := range []func(*api.Msg){
				func(m *api.Msg) { m.Kind = 0 }, func(m *api.Msg) { m.Kind = api.MsgReply }, func(m *api.Msg) { m.Kind = api.MsgBreak },
				func(m *api.Msg) { m.Kind = api.MsgFlush }, func(m *api.Msg) { m.Kind = 5 }, func(m *api.Msg) { m.Kind = -1 },
				func(m *api.Msg) { m.Client = 0 }, func(m *api.Msg) { m.Client = -1 }, func(m *api.Msg) { m.Client = 3 },
				func(m *api.Msg) { m.Client = math.MaxInt }, func(m *api.Msg) { m.Client = math.MinInt },
				func(m *api.Msg) { m.Life = 0 }, func(m *api.Msg) { m.Life = -1 }, func(m *api.Msg) { m.Life = math.MinInt },
				func(m *api.Msg) { m.Seq = 0 }, func(m *api.Msg) { m.Seq = -1 }, func(m *api.Msg) { m.Seq = math.MinInt },
				func(m *api.Msg) { m.Mark = 0.5 }, func(m *api.Msg) { m.Mark = 1 + 0.5i }, func(m *api.Msg) { m.Mark = -1 }, func(m *api.Msg) { m.Mark = 1 - 1i },
				func(m *api.Msg) { m.Mark = complex(math.NaN(), 0) }, func(m *api.Msg) { m.Mark = complex(1, math.Inf(1)) },
				func(m *api.Msg) { m.Mark = api.MaxMark + 1 }, func(m *api.Msg) { m.Mark = complex(1, api.MaxMark+1) },
				func(m *api.Msg) { *m = api.Msg{} },
			} {
				s, d := begun(t)
				m := good
				spoil(&m)
				unchanged(t, s, d, m)
				// Neither its life nor its Seq were taken.
				replies(t, s, ask(1, 3, 5, 1+2i, syncing()), 1+2i, 2, api.OK)
				replies(t, s, ask(2, 1, 1, 1, syncing()), 1, 2, api.OK)
				if t.Failed() {
					t.Fatalf("at %v, %d", op, i)
				}
			}
		}
	}
}

// What an ask carries beside its op is not looked at.
func TestFieldsBesideTheOp(t *testing.T) {
	s, _ := served(t, limits(), 99)
	a := ask(1, 1, 1, 1, mkdir(1, "a"))
	a.Version, a.Err, a.Entries, a.Keys = 77, api.ErrStale, []api.Entry{none(1, "z")}, []api.Key{key(1, "z")}
	replies(t, s, a, 1, 1, api.OK, dir(2, 1, "a"))
}

func TestLives(t *testing.T) {
	s, d := begun(t)
	// An earlier life, whatever it asks: its Seq and its mark do not count.
	for _, op := range everyOp() {
		for _, m := range []complex128{0, 1, 1 + 2i, 2} {
			unchanged(t, s, d, ask(1, 2, 9, m, op))
			unchanged(t, s, d, ask(1, 1, 9, m, op))
		}
	}
	replies(t, s, ask(1, 3, 5, 1, syncing()), 1+2i, 2, api.OK)
	// A later one begins anew: no promises, no breaks, the mark's number and the Seq are 0.
	replies(t, s, ask(1, 4, 1, 1, syncing()), 1, 2, api.OK)
	if s.Mark(1) != 1 || len(s.Promises(1)) != 0 || len(s.Queue(1)) != 0 {
		t.Errorf("%v, %v, %v", s.Mark(1), s.Promises(1), s.Queue(1))
	}
	unchanged(t, s, d, ask(1, 3, 9, 1, syncing()))
	says(t, s, ask(1, 4, 1, 1+1i, syncing()))
	// Lives need not follow one another, and a client's life is no other's.
	replies(t, s, ask(1, math.MaxInt, 1, 1, syncing()), 1, 2, api.OK)
	replies(t, s, ask(2, 1, 1, 1, syncing()), 1, 2, api.OK)
	unchanged(t, s, d, ask(1, math.MaxInt-1, 1, 1, syncing()))
	// The breaks of an earlier life are sent no more, those of a later one have its life.
	replies(t, s, ask(2, 2, 1, 1, look(1, "a")), 1, 2, api.OK, dir(2, 1, "a"))
	a := ask(1, math.MaxInt, 2, 1, rmdir(1, "a"))
	says(t, s, a, reply(a, 1, 2, api.ErrFull))
	replies(t, s, ask(2, 3, 1, 1, look(1, "a")), 1, 2, api.OK, dir(2, 1, "a"))
	a = ask(2, 3, 2, 1, rmdir(1, "a"))
	says(t, s, a, broken(2, 3, 1+1i, 3, key(1, "a")), reply(a, 1+1i, 3, api.OK, none(1, "a")))
}

// The new session of a later life stays, also where the ask comes to nothing.
func TestSessionsOfAsksThatComeToNothing(t *testing.T) {
	for _, op := range everyOp() {
		s, d := begun(t)
		replies(t, s, ask(1, 4, 1, 0, op), 1, 2, api.ErrEpoch)
		if s.Mark(1) != 1 || len(s.Promises(1)) != 0 {
			t.Errorf("behind ErrEpoch: %v, %v", s.Mark(1), s.Promises(1))
		}
		unchanged(t, s, d, ask(1, 3, 9, 1, syncing()))
		says(t, s, ask(1, 5, 1, 1+1i, op))
		unchanged(t, s, d, ask(1, 4, 9, 1, syncing()))
		// A session of a client's first life, too.
		replies(t, s, ask(2, 7, 1, 2, op), 1, 2, api.ErrEpoch)
		if s.Mark(2) != 1 {
			t.Errorf("of client 2: %v", s.Mark(2))
		}
		unchanged(t, s, d, ask(2, 6, 9, 1, syncing()))
	}
}

func TestMarksOfAnotherEpoch(t *testing.T) {
	for _, op := range everyOp() {
		for _, m := range []complex128{0, 2, 0 + 1i, 2 + 9i, api.MaxMark, complex(math.Copysign(0, -1), 0)} {
			s, d := begun(t)
			before := tells(s, d)
			replies(t, s, ask(1, 3, 9, m, op), 1+2i, 2, api.ErrEpoch)
			replies(t, s, ask(1, 3, 1, m, op), 1+2i, 2, api.ErrEpoch)
			if tells(s, d) != before {
				t.Errorf("%v at %v has changed something", op, m)
			}
			// Its Seq was not taken.
			replies(t, s, ask(1, 3, 5, 1, syncing()), 1+2i, 2, api.OK)
		}
	}
}

func TestLeastAndGreatestEpoch(t *testing.T) {
	for _, epoch := range []int{0, api.MaxMark} {
		_, j := formatted(t, 99)
		s, e := serve.New(limits(), j, tree.New(), make([]api.Seen, 2), epoch)
		if e != api.OK {
			t.Fatalf("New: %d", e)
		}
		own, other := complex(float64(epoch), 0), complex(float64(api.MaxMark-epoch), 0)
		replies(t, s, ask(1, 1, 1, other, look(1, "a")), own, 0, api.ErrEpoch)
		replies(t, s, ask(1, 1, 1, own, look(1, "a")), own, 0, api.OK, none(1, "a"))
		a := ask(2, 1, 1, own, mkdir(1, "a"))
		says(t, s, a, broken(1, 1, own+1i, 1, key(1, "a")), reply(a, own, 1, api.OK, dir(2, 1, "a")))
		says(t, s, ask(1, 1, 2, own+1i, again()))
	}
	// -0 counts as 0.
	_, j := formatted(t, 99)
	s, _ := serve.New(limits(), j, tree.New(), make([]api.Seen, 2), 0)
	minus := math.Copysign(0, -1)
	replies(t, s, ask(1, 1, 1, complex(minus, minus), look(1, "a")), 0, 0, api.OK, none(1, "a"))
}

func TestAckThatIsRefused(t *testing.T) {
	for _, op := range everyOp() {
		for _, m := range []complex128{1 + 3i, 1 + 4i, complex(1, api.MaxMark)} {
			s, d := begun(t)
			unchanged(t, s, d, ask(1, 3, 9, m, op))
			replies(t, s, ask(1, 3, 5, 1, syncing()), 1+2i, 2, api.OK)
		}
	}
}

// An ask acknowledges breaks even if it comes to nothing for its Seq, or its kind.
func TestAckOfEveryAsk(t *testing.T) {
	for _, op := range everyOp() {
		for _, seq := range []int{1, 5, 6} {
			for number := range 3 {
				s, _ := begun(t)
				queue := s.Queue(1)
				if _, e := s.Handle(ask(1, 3, seq, complex(1, float64(number)), op)); e != api.OK {
					t.Errorf("Handle: %d", e)
				}
				left := s.Queue(1)
				if len(left) < 2-number || number < 2 && left[0].Mark != queue[number].Mark {
					t.Errorf("%v acknowledged %d: %v", op, number, left)
				}
				if number == 2 && len(left) > 0 && left[0].Mark != 1+3i {
					t.Errorf("%v acknowledged all: %v", op, left)
				}
			}
		}
	}
}

func TestAgain(t *testing.T) {
	conf := limits()
	conf.Promises, conf.Queue = 1, 3
	s, d := served(t, conf, 99)
	says(t, s, ask(1, 1, 1, 1, again()))
	replies(t, s, ask(1, 1, 1, 1, look(1, "a")), 1, 0, api.OK, none(1, "a"))
	says(t, s, ask(1, 1, 1, 1, again()))
	for i, name := range []string{"b", "c", "d"} {
		m := complex(1, float64(i+1))
		a := ask(1, 1, 2+i, 1, look(1, name))
		says(t, s, a, broken(1, 1, m, 0, key(1, string(name[0]-1))), reply(a, m, 0, api.OK, none(1, name)))
	}
	one, two, three := broken(1, 1, 1+1i, 0, key(1, "a")), broken(1, 1, 1+2i, 0, key(1, "b")), broken(1, 1, 1+3i, 0, key(1, "c"))
	// As often as it is asked, with whatever Seq; what it names itself is not looked at.
	for _, seq := range []int{1, 4, 99, math.MaxInt, 1} {
		before := tells(s, d)
		says(t, s, ask(1, 1, seq, 1, again()), one, two, three)
		says(t, s, ask(1, 1, seq, 1, api.Op{Kind: api.OpAgain, Dir: -7, Name: strings.Repeat("x", 99), Mode: -1}), one, two, three)
		if tells(s, d) != before {
			t.Error("OpAgain has changed something")
		}
	}
	says(t, s, ask(1, 1, 1, 1+1i, again()), two, three)
	says(t, s, ask(1, 1, 1, 1, again()), two, three)
	says(t, s, ask(1, 1, 1, 1+4i, again()))
	// Its Seq was taken never.
	replies(t, s, ask(1, 1, 4, 1, syncing()), 1+3i, 0, api.OK)
	a := ask(1, 1, 5, 1, look(1, "e"))
	says(t, s, a, broken(1, 1, 1+4i, 0, key(1, "d")), reply(a, 1+4i, 0, api.OK, none(1, "e")))
	a = ask(1, 1, 6, 1, look(1, "f"))
	says(t, s, a, flush(1, 1, 1+5i, 0), reply(a, 1+5i, 0, api.ErrBusy))
	says(t, s, ask(1, 1, 1, 1+4i, again()), flush(1, 1, 1+5i, 0))
	says(t, s, ask(1, 1, 1, 1+5i, again()))
	// Breaks keep the version at which they were made.
	replies(t, s, ask(1, 1, 6, 1+5i, look(1, "f")), 1+5i, 0, api.OK, none(1, "f"))
	a = ask(2, 1, 1, 1, mkdir(1, "f"))
	says(t, s, a, broken(1, 1, 1+6i, 1, key(1, "f")), reply(a, 1, 1, api.OK, dir(2, 1, "f")))
	a = ask(2, 1, 2, 1, mkdir(1, "g"))
	says(t, s, a, broken(2, 1, 1+1i, 2, key(1, "f")), reply(a, 1+1i, 2, api.OK, dir(3, 1, "g")))
	says(t, s, ask(1, 1, 1, 1+5i, again()), broken(1, 1, 1+6i, 1, key(1, "f")))
}

func TestSeqs(t *testing.T) {
	for _, op := range everyOp() {
		if op.Kind == api.OpAgain {
			continue
		}
		s, d := begun(t)
		for _, seq := range []int{4, 3, 1} {
			unchanged(t, s, d, ask(1, 3, seq, 1, op))
		}
		replies(t, s, ask(1, 3, 5, 1, syncing()), 1+2i, 2, api.OK)
		// The next one, and one that leaves some out, are taken, whatever comes of them.
		for _, seq := range []int{6, 99, math.MaxInt} {
			if _, e := s.Handle(ask(1, 3, seq, 1, op)); e != api.OK {
				t.Errorf("%v: %d", op, e)
			}
			unchanged(t, s, d, ask(1, 3, seq-1, 1, syncing()))
			replies(t, s, ask(1, 3, seq, 1, syncing()), s.Mark(1), s.Version(), api.OK)
		}
		// Another client's Seq is its own.
		replies(t, s, ask(2, 1, 1, 1, syncing()), 1, s.Version(), api.OK)
	}
}

func TestOtherKinds(t *testing.T) {
	for _, kind := range []int{0, -1, api.OpSetattr + 1, 99, math.MaxInt, math.MinInt} {
		s, d := begun(t)
		op := api.Op{Kind: kind, Dir: 1, Name: "new", Mode: 7, To: 1, New: "b", Target: "x"}
		unchanged(t, s, d, ask(1, 3, 8, 1, op))
		unchanged(t, s, d, ask(1, 3, 7, 1, syncing()))
		replies(t, s, ask(1, 3, 8, 1, syncing()), 1+2i, 2, api.OK)
	}
}

func TestLook(t *testing.T) {
	s, _ := servedWith(t, wide(), 99, loaded(t, 2, 4, dir(2, 1, "a"), link(3, 1, "l", "x")), make([]api.Seen, 4))
	for i, x := range []struct {
		dir   int
		name  string
		e     api.Errno
		entry api.Entry
	}{
		{1, "a", api.OK, dir(2, 1, "a")}, {1, "l", api.OK, link(3, 1, "l", "x")}, {1, "b", api.OK, none(1, "b")}, {2, "a", api.OK, none(2, "a")},
		{9, "a", api.ErrStale, api.Entry{}}, {3, "a", api.ErrNotDir, api.Entry{}}, {-1, "a", api.ErrStale, api.Entry{}}, {math.MaxInt, "a", api.ErrStale, api.Entry{}},
		{1, "", api.ErrName, api.Entry{}}, {1, "..", api.ErrName, api.Entry{}}, {1, "a/", api.ErrName, api.Entry{}}, {1, strings.Repeat("x", 13), api.ErrNameTooLong, api.Entry{}},
	} {
		before := s.Promises(1)
		a := ask(1, 1, 1+i, 1, look(x.dir, x.name))
		if x.e != api.OK {
			replies(t, s, a, 1, 2, x.e)
			if !slices.Equal(s.Promises(1), before) {
				t.Errorf("promised behind an error: %v", s.Promises(1))
			}
			continue
		}
		// Once more, with the very Seq: as it was.
		replies(t, s, a, 1, 2, api.OK, x.entry)
		replies(t, s, a, 1, 2, api.OK, x.entry)
		if !slices.Equal(s.Promises(1), append(before, key(x.dir, x.name))) {
			t.Errorf("promised: %v", s.Promises(1))
		}
	}
}

func TestList(t *testing.T) {
	s, _ := servedWith(t, wide(), 99, loaded(t, 2, 9, dir(2, 1, "a"), link(3, 1, "l", "x"), dir(5, 2, "B"), dir(4, 2, "a")), make([]api.Seen, 4))
	replies(t, s, ask(1, 1, 1, 1, list(1)), 1, 2, api.OK, dir(2, 1, "a"), link(3, 1, "l", "x"))
	replies(t, s, ask(1, 1, 2, 1, list(2)), 1, 2, api.OK, dir(5, 2, "B"), dir(4, 2, "a"))
	replies(t, s, ask(1, 1, 3, 1, list(4)), 1, 2, api.OK)
	replies(t, s, ask(1, 1, 4, 1, list(3)), 1, 2, api.ErrNotDir)
	replies(t, s, ask(1, 1, 5, 1, list(9)), 1, 2, api.ErrStale)
	replies(t, s, ask(1, 1, 5, 1, list(-1)), 1, 2, api.ErrStale)
	// A Name is not looked at.
	replies(t, s, ask(1, 1, 6, 1, api.Op{Kind: api.OpList, Dir: 4, Name: "a"}), 1, 2, api.OK)
	if got := s.Promises(1); !slices.Equal(got, []api.Key{key(1, ""), key(2, ""), key(4, "")}) {
		t.Errorf("promised: %v", got)
	}
	// A name that comes, or goes, in a whole directory is told; the directory stays promised.
	a := ask(2, 1, 1, 1, mkdir(2, "z"))
	says(t, s, a, broken(1, 1, 1+1i, 3, key(2, "z")), reply(a, 1, 3, api.OK, dir(9, 2, "z")))
	a = ask(2, 1, 2, 1, rmdir(2, "z"))
	says(t, s, a, broken(1, 1, 1+2i, 4, key(2, "z")), broken(2, 1, 1+1i, 4, key(2, "z")), reply(a, 1+1i, 4, api.OK, none(2, "z")))
}

func TestSync(t *testing.T) {
	s, d := begun(t)
	before := tells(s, d)
	replies(t, s, ask(1, 3, 6, 1, syncing()), 1+2i, 2, api.OK)
	replies(t, s, ask(1, 3, 7, 1, api.Op{Kind: api.OpSync, Dir: 9, Name: "x"}), 1+2i, 2, api.OK)
	if tells(s, d) != before {
		t.Error("OpSync has changed something")
	}
}

// A read of what is promised already makes it the one used last.
func TestPromisesAreUsed(t *testing.T) {
	s, _ := served(t, limits(), 99)
	replies(t, s, ask(1, 1, 1, 1, look(1, "a")), 1, 0, api.OK, none(1, "a"))
	replies(t, s, ask(1, 1, 2, 1, list(1)), 1, 0, api.OK)
	replies(t, s, ask(1, 1, 3, 1, look(1, "a")), 1, 0, api.OK, none(1, "a"))
	a := ask(1, 1, 4, 1, look(1, "b"))
	says(t, s, a, broken(1, 1, 1+1i, 0, key(1, "")), reply(a, 1+1i, 0, api.OK, none(1, "b")))
	a = ask(1, 1, 5, 1, list(1))
	says(t, s, a, broken(1, 1, 1+2i, 0, key(1, "a")), reply(a, 1+2i, 0, api.OK))
}

func TestBusy(t *testing.T) {
	for _, op := range []api.Op{look(1, "c"), list(1)} {
		conf := limits()
		conf.Promises, conf.Queue = 1, 1
		s, _ := served(t, conf, 99)
		made := ask(2, 1, 1, 1, mkdir(1, "c"))
		replies(t, s, made, 1, 1, api.OK, dir(2, 1, "c"))
		replies(t, s, ask(1, 1, 1, 1, look(1, "a")), 1, 1, api.OK, none(1, "a"))
		a := ask(1, 1, 2, 1, look(1, "b"))
		says(t, s, a, broken(1, 1, 1+1i, 1, key(1, "a")), reply(a, 1+1i, 1, api.OK, none(1, "b")))
		// The queue is full: the break says everything, and nothing is promised.
		a = ask(1, 1, 3, 1, op)
		says(t, s, a, flush(1, 1, 1+2i, 1), reply(a, 1+2i, 1, api.ErrBusy))
		if len(s.Promises(1)) != 0 {
			t.Errorf("promised: %v", s.Promises(1))
		}
		replies(t, s, a, 1+2i, 1, api.OK, dir(2, 1, "c"))
		// With the break acknowledged there is room for another one.
		a = ask(1, 1, 4, 1+2i, look(1, "d"))
		says(t, s, a, broken(1, 1, 1+3i, 1, key(1, keyName(op))), reply(a, 1+3i, 1, api.OK, none(1, "d")))
	}
}

// keyName is the name of the key that a read is promised.
func keyName(op api.Op) string {
	if op.Kind == api.OpList {
		return ""
	}
	return op.Name
}

func TestEveryMutation(t *testing.T) {
	file := api.Entry{Key: key(1, "f"), Node: api.Node{ID: 2, Kind: api.KindFile, Mode: 5}}
	s, d := served(t, wide(), 99)
	var want []api.Note
	for i, x := range []struct {
		op      api.Op
		entries []api.Entry
	}{
		{api.Op{Kind: api.OpCreate, Dir: 1, Name: "f", Mode: 5}, []api.Entry{file}},
		{mkdir(1, "d"), []api.Entry{dir(3, 1, "d")}},
		{symlink(3, "l", "../f"), []api.Entry{link(4, 3, "l", "../f")}},
		{chmod(1, "d", 511), []api.Entry{{Key: key(1, "d"), Node: api.Node{ID: 3, Kind: api.KindDir, Mode: 511}}}},
		{rename(3, "l", 1, "a"), []api.Entry{link(4, 1, "a", "../f"), none(3, "l")}},
		{rename(1, "a", 1, "a"), []api.Entry{link(4, 1, "a", "../f")}},
		{api.Op{Kind: api.OpUnlink, Dir: 1, Name: "f"}, []api.Entry{none(1, "f")}},
		{rmdir(1, "d"), []api.Entry{none(1, "d")}},
	} {
		a := ask(1, 1, 1+i, 1, x.op)
		got, e := s.Handle(a)
		if e != api.OK || len(got) == 0 {
			t.Fatalf("%v: %v, %d", a, got, e)
		}
		answers(t, fmt.Sprint(a), got[len(got)-1:], []api.Msg{reply(a, s.Mark(1), 1+i, api.OK, x.entries...)})
		if s.Version() != 1+i || s.Seen(1) != (api.Seen{Life: 1, Seq: 1 + i}) {
			t.Errorf("version %d, seen %v", s.Version(), s.Seen(1))
		}
		want = append(want, done(a, api.OK))
		holds(t, "behind a mutation", d, want...)
	}
	if got := s.Tree().Dump(); !slices.Equal(got, []api.Entry{link(4, 1, "a", "../f")}) {
		t.Errorf("the tree: %v", got)
	}
}

// The order: the clients' breaks, from 1 on, the asker's among them; the breaks of what is granted; the reply.
func TestOrderOfMessages(t *testing.T) {
	conf := wide()
	conf.Promises = 2
	s, _ := servedWith(t, conf, 99, loaded(t, 0, 4, dir(2, 1, "a"), dir(3, 1, "b")), make([]api.Seen, 4))
	for client := range 4 {
		replies(t, s, ask(client+1, 1, 1, 1, list(1)), 1, 0, api.OK, dir(2, 1, "a"), dir(3, 1, "b"))
	}
	replies(t, s, ask(2, 1, 2, 1, look(2, "x")), 1, 0, api.OK, none(2, "x"))
	replies(t, s, ask(4, 1, 2, 1, look(2, "x")), 1, 0, api.OK, none(2, "x"))
	// Client 3 has nothing of it, since its new life has asked for nothing.
	replies(t, s, ask(3, 2, 1, 1, syncing()), 1, 0, api.OK)
	a := ask(2, 1, 3, 1, rename(1, "b", 2, "x"))
	keys := []api.Key{key(1, "b"), key(2, "x")}
	says(t, s, a,
		broken(1, 1, 1+1i, 1, key(1, "b")),
		broken(2, 1, 1+1i, 1, keys...),
		broken(4, 1, 1+1i, 1, keys...),
		broken(2, 1, 1+2i, 1, key(1, "")),
		reply(a, 1+2i, 1, api.OK, none(1, "b"), dir(3, 2, "x")))
	if got := s.Promises(2); !slices.Equal(got, keys) {
		t.Errorf("promised: %v", got)
	}
	if len(s.Promises(3)) != 0 || !slices.Equal(s.Promises(4), []api.Key{key(1, "")}) {
		t.Errorf("the others were promised %v, %v", s.Promises(3), s.Promises(4))
	}
}

// Of what a mutation has made only that is told of which the promise holds in the end.
func TestEntriesThatAreHeld(t *testing.T) {
	conf := limits()
	conf.Promises, conf.Queue = 1, 1
	s, _ := servedWith(t, conf, 99, loaded(t, 0, 3, dir(2, 1, "a")), make([]api.Seen, 2))
	a := ask(1, 1, 1, 1, rename(1, "a", 1, "b"))
	says(t, s, a, broken(1, 1, 1+1i, 1, key(1, "a")), reply(a, 1+1i, 1, api.OK, dir(2, 1, "b")))
	// Now the queue has no room: the second grant breaks everything.
	a = ask(1, 1, 2, 1+1i, rename(1, "b", 1, "a"))
	says(t, s, a, broken(1, 1, 1+2i, 2, key(1, "b")), flush(1, 1, 1+3i, 2), reply(a, 1+3i, 2, api.OK))
	if len(s.Promises(1)) != 0 {
		t.Errorf("promised: %v", s.Promises(1))
	}
	// The asker's own promise is broken by everything; the grant behind it holds.
	replies(t, s, ask(1, 1, 3, 1+2i, look(1, "a")), 1+3i, 2, api.OK, dir(2, 1, "a"))
	a = ask(1, 1, 4, 1+2i, chmod(1, "a", 1))
	says(t, s, a, flush(1, 1, 1+4i, 3), reply(a, 1+4i, 3, api.OK, api.Entry{Key: key(1, "a"), Node: api.Node{ID: 2, Kind: api.KindDir, Mode: 1}}))
}

func TestMutationThatTheTreeRefuses(t *testing.T) {
	s, d := begun(t)
	tr := s.Tree()
	a := ask(2, 1, 1, 1, mkdir(1, "a"))
	replies(t, s, a, 1, 2, api.ErrExist)
	if s.Seen(2) != (api.Seen{Life: 1, Seq: 1, Err: api.ErrExist}) || s.Seen(1) != (api.Seen{}) {
		t.Errorf("seen: %v, %v", s.Seen(2), s.Seen(1))
	}
	if !slices.Equal(s.Tree().Dump(), tr.Dump()) || s.Tree().Next() != tr.Next() || s.Version() != 2 {
		t.Error("the tree has changed")
	}
	if s.Mark(1) != 1+2i || len(s.Promises(2)) != 0 {
		t.Errorf("%v, %v", s.Mark(1), s.Promises(2))
	}
	holds(t, "behind a refusal", d, done(a, api.ErrExist))
	// Its answer stays, also when it would be another one by now.
	says(t, s, ask(1, 3, 6, 1+2i, rmdir(1, "a")), broken(1, 3, 1+3i, 3, key(1, "a")), reply(ask(1, 3, 6, 0, api.Op{}), 1+3i, 3, api.OK, none(1, "a")))
	replies(t, s, a, 1, 3, api.ErrExist)
	for i, x := range []struct {
		op api.Op
		e  api.Errno
	}{
		{mkdir(9, "a"), api.ErrStale}, {mkdir(3, "a"), api.ErrNotDir}, {mkdir(1, "."), api.ErrName}, {mkdir(1, strings.Repeat("x", 13)), api.ErrNameTooLong},
		{chmod(1, "l", 512), api.ErrArg}, {rmdir(1, "a"), api.ErrNotFound}, {rmdir(1, "l"), api.ErrNotDir}, {symlink(1, "z", ""), api.ErrPath},
	} {
		replies(t, s, ask(2, 1, 2+i, 1, x.op), 1, 3, x.e)
	}
}

func TestMutationOnceMore(t *testing.T) {
	s, d := served(t, limits(), 99)
	first := ask(1, 2, 3, 1, mkdir(1, "a"))
	replies(t, s, first, 1, 1, api.OK, dir(2, 1, "a"))
	before := tells(s, d)
	// At once, and with another op under the same number, which is the same mutation.
	for _, op := range []api.Op{mkdir(1, "a"), mkdir(1, "b"), rmdir(1, "a"), mkdir(9, "")} {
		replies(t, s, ask(1, 2, 3, 1, op), 1, 1, api.OK)
	}
	if tells(s, d) != before {
		t.Error("something has changed")
	}
	// Behind others' asks: with the version and the mark of now.
	a := ask(2, 1, 1, 1, rmdir(1, "a"))
	says(t, s, a, broken(1, 2, 1+1i, 2, key(1, "a")), reply(a, 1, 2, api.OK, none(1, "a")))
	replies(t, s, first, 1+1i, 2, api.OK)
	replies(t, s, ask(2, 1, 1, 1, mkdir(1, "a")), 1, 2, api.OK)
	// Behind reads of the client itself it comes too late.
	replies(t, s, ask(1, 2, 4, 1, syncing()), 1+1i, 2, api.OK)
	unchanged(t, s, d, first)
	// With a lesser Seq it comes too late, whether or not the session knows of a later one.
	unchanged(t, s, d, ask(1, 2, 2, 1, mkdir(1, "a")))
	// In a later life the same number is another mutation, and then those of the earlier life come too late.
	a = ask(1, 3, 3, 1, mkdir(1, "a"))
	says(t, s, a, broken(2, 1, 1+1i, 3, key(1, "a")), reply(a, 1, 3, api.OK, dir(3, 1, "a")))
	if s.Seen(1) != (api.Seen{Life: 3, Seq: 3}) {
		t.Errorf("seen: %v", s.Seen(1))
	}
	unchanged(t, s, d, first)
}

// A server that was just started knows of mutations by what it was handed alone.
func TestMutationsOfBeforeTheStart(t *testing.T) {
	start := func() (*serve.Server, *block.Disk) {
		return servedWith(t, limits(), 99, tree.New(), []api.Seen{{Life: 3, Seq: 5, Err: api.ErrExist}, {}})
	}
	op := mkdir(1, "a")
	for _, x := range [][2]int{{3, 4}, {3, 1}, {2, 5}, {2, 6}, {1, 99}} {
		s, d := start()
		says(t, s, ask(1, x[0], x[1], 1, op))
		if s.Version() != 0 || s.Seen(1) != (api.Seen{Life: 3, Seq: 5, Err: api.ErrExist}) {
			t.Errorf("%v: version %d, seen %v", x, s.Version(), s.Seen(1))
		}
		holds(t, "too late", d)
		// The session is there, and its Seq is taken.
		unchanged(t, s, d, ask(1, x[0], x[1]-1, 1, syncing()))
		replies(t, s, ask(1, x[0], x[1], 1, syncing()), 1, 0, api.OK)
	}
	s, d := start()
	replies(t, s, ask(1, 3, 5, 1, op), 1, 0, api.ErrExist)
	holds(t, "once more", d)
	for _, x := range [][2]int{{3, 6}, {4, 1}, {4, 5}, {9, 9}} {
		s, _ := start()
		replies(t, s, ask(1, x[0], x[1], 1, op), 1, 1, api.OK, dir(2, 1, "a"))
	}
	s, _ = start()
	replies(t, s, ask(2, 3, 5, 1, op), 1, 1, api.OK, dir(2, 1, "a"))
}
