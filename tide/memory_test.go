package tide_test

import (
	"slices"
	"testing"

	"vista/api"
	"vista/tide"
)

// R3

// roomy is a message whose lists have spare room, with something in it.
func roomy(m api.Msg) api.Msg {
	m.Keys = append(slices.Clone(m.Keys), key(8, "spare"), key(8, "room"))[:len(m.Keys)]
	m.Entries = append(slices.Clone(m.Entries), none(8, "spare"), none(8, "room"))[:len(m.Entries)]
	return m
}

// spoil writes over a message's lists, their spare room too.
func spoil(m api.Msg) {
	spoilKeys(m.Keys)
	spoilEntries(m.Entries)
}

func spoilKeys(keys []api.Key) {
	for i := range keys[:cap(keys)] {
		keys[:cap(keys)][i] = key(-77, "spoilt")
	}
}

func spoilEntries(entries []api.Entry) {
	for i := range entries[:cap(entries)] {
		entries[:cap(entries)][i] = file(-77, "spoilt", -77)
	}
}

// ruin writes over acts, and over all that they hold.
func ruin(acts []api.Act) {
	for i := range acts {
		spoilKeys(acts[i].Keys)
		spoilEntries(acts[i].Entries)
	}
	for i := range acts[:cap(acts)] {
		acts[:cap(acts)][i] = api.Act{Again: true, Err: -77, Keys: []api.Key{key(-77, "ruined")}}
	}
}

// ruinHeld writes over held messages, and over all that they hold.
func ruinHeld(held []api.Msg) {
	for i := range held {
		spoil(held[i])
	}
	for i := range held[:cap(held)] {
		held[:cap(held)][i] = api.Msg{Kind: -77, Mark: -77, Keys: []api.Key{key(-77, "ruined")}}
	}
}

// script are messages and Asks (a message of kind 0: its Seq is asked) that make every sort of act, with breaks and replies held, fresh and let go.
func script() []api.Msg {
	return []api.Msg{
		broken(1+2i, 2, key(1, "b"), key(1, "bb")),
		broken(1+3i, 3, key(1, "c"), key(2, "")),
		{Seq: 5},
		reply(5, 1+1i, 1, api.ErrEpoch, none(1, "a")),
		reply(5, 1+3i, 3, api.OK, none(1, "a"), file(2, "b", 3), none(1, "d"), none(4, "e")),
		broken(1+4i, 4, key(1, "d"), key(4, "")),
		broken(1+4i, 9, key(1, "x")),
		broken(1+1i, 1, key(1, "a"), key(1, "aa"), key(1, "aaa")),
		reply(5, 1+4i, 4, api.OK, none(1, "a")),
		{Seq: 6},
		broken(1+5i, 5, key(1, "a"), key(3, "")),
		reply(6, 1+4i, 4, api.ErrStale, none(1, "a"), none(1, "b"), none(3, "c")),
		{Seq: 7},
		broken(1+7i, 7, key(1, "g")),
		flush(1+6i, 6),
		reply(7, 1+6i, 6, api.OK, none(1, "g"), none(1, "h")),
		broken(2+2i, 8, key(1, "b")),
		flush(2+3i, 9),
	}
}

// told is what a tide tells behind a step: its acts, and what is held then.
type told struct {
	acts []api.Act
	held []api.Msg
}

func likeTold(a, b told) bool {
	return slices.EqualFunc(a.acts, b.acts, likeAct) && slices.EqualFunc(a.held, b.held, likeMsg)
}

// run does a script; behind each step it is shown the message as it was handed in, and what was told.
func run(x *tide.Tide, behind func(m api.Msg, acts []api.Act, held []api.Msg)) []told {
	var all []told
	for _, m := range script() {
		if m.Kind == 0 {
			x.Ask(m.Seq)
			continue
		}
		m = roomy(m)
		acts, held := x.Take(m), x.Held()
		all = append(all, told{acts: copiedActs(acts), held: copiedMsgs(held)})
		behind(m, acts, held)
	}
	return all
}

func copiedActs(acts []api.Act) []api.Act {
	acts = slices.Clone(acts)
	for i, act := range acts {
		acts[i].Keys, acts[i].Entries = slices.Clone(act.Keys), slices.Clone(act.Entries)
	}
	return acts
}

func copiedMsgs(all []api.Msg) []api.Msg {
	all = slices.Clone(all)
	for i, m := range all {
		all[i].Keys, all[i].Entries = slices.Clone(m.Keys), slices.Clone(m.Entries)
	}
	return all
}

func TestMessagesAreNotChanged(t *testing.T) {
	i := 0
	var steps []api.Msg
	for _, m := range script() {
		if m.Kind != 0 {
			steps = append(steps, m)
		}
	}
	run(client(t, 8), func(m api.Msg, _ []api.Act, _ []api.Msg) {
		want := roomy(steps[i])
		if !likeMsg(m, want) || !slices.Equal(m.Keys[:cap(m.Keys)][:len(m.Keys)+2], want.Keys[:len(want.Keys)+2]) ||
			!slices.Equal(m.Entries[:cap(m.Entries)][:len(m.Entries)+2], want.Entries[:len(want.Entries)+2]) {
			t.Errorf("%v was changed to %v", want, m)
		}
		i++
	})
}

// What is handed in, and what is answered, may be written over: what is told behind that is the same.
func TestNothingIsShared(t *testing.T) {
	for _, hold := range []int{0, 1, 2, 8} {
		want := run(client(t, hold), func(api.Msg, []api.Act, []api.Msg) {})
		for what, spoils := range map[string]func(m api.Msg, acts []api.Act, held []api.Msg){
			"messages": func(m api.Msg, _ []api.Act, _ []api.Msg) { spoil(m) },
			"acts":     func(_ api.Msg, acts []api.Act, _ []api.Msg) { ruin(acts) },
			"held":     func(_ api.Msg, _ []api.Act, held []api.Msg) { ruinHeld(held) },
			"all": func(m api.Msg, acts []api.Act, held []api.Msg) {
				spoil(m)
				ruin(acts)
				ruinHeld(held)
			},
		} {
			if got := run(client(t, hold), spoils); !slices.EqualFunc(got, want, likeTold) {
				t.Errorf("hold %d, %s written over: %v, not %v", hold, what, got, want)
			}
		}
	}
}

// The answers of earlier calls stay as they were, whatever comes behind them and whatever is written over.
func TestAnswersStayAsTheyAre(t *testing.T) {
	var messages []api.Msg
	var answers []told
	want := run(client(t, 8), func(m api.Msg, acts []api.Act, held []api.Msg) {
		messages = append(messages, m)
		answers = append(answers, told{acts: acts, held: held})
	})
	for _, m := range messages {
		spoil(m)
	}
	if !slices.EqualFunc(answers, want, likeTold) {
		t.Errorf("answers are %v now, not %v", answers, want)
	}
}

// Of one answer each list is its own: one that is written over leaves the others as they were.
func TestListsOfOneAnswerShareNothing(t *testing.T) {
	for which := range 20 {
		want := run(client(t, 8), func(api.Msg, []api.Act, []api.Msg) {})
		i := 0
		run(client(t, 8), func(_ api.Msg, acts []api.Act, held []api.Msg) {
			if which < len(acts) {
				spoilKeys(acts[which].Keys)
				spoilEntries(acts[which].Entries)
				acts, want[i].acts = slices.Delete(acts, which, which+1), slices.Delete(want[i].acts, which, which+1)
			}
			if which < len(held) {
				spoil(held[which])
				held, want[i].held = slices.Delete(held, which, which+1), slices.Delete(want[i].held, which, which+1)
			}
			if got := (told{acts: acts, held: held}); !likeTold(got, want[i]) {
				t.Errorf("with number %d written over: %v, not %v", which, got, want[i])
			}
			i++
		})
	}
}

// Messages whose lists lie in one another's memory are told apart.
func TestMessagesThatShareLists(t *testing.T) {
	keys := []api.Key{key(1, "a"), key(1, "b"), key(1, "c")}
	x := at(t, 8, 1)
	m := broken(1+3i, 3)
	m.Keys = keys[:3]
	does(t, x, m)
	m = broken(1+2i, 2)
	m.Keys = keys[1:2]
	does(t, x, m)
	m = broken(1+1i, 1)
	m.Keys = keys[:1]
	acts := x.Take(m)
	acts[0].Keys = append(acts[0].Keys, key(7, "x"), key(7, "y"))
	acts[1].Keys = append(acts[1].Keys, key(7, "z"))
	want := []api.Act{forgets(key(1, "a"), key(7, "x"), key(7, "y")), forgets(key(1, "b"), key(7, "z")), forgets(key(1, "a"), key(1, "b"), key(1, "c"))}
	if !slices.EqualFunc(acts, want, likeAct) || !slices.Equal(keys, []api.Key{key(1, "a"), key(1, "b"), key(1, "c")}) {
		t.Errorf("%v, of %v", acts, keys)
	}
}

// nil and an empty list are one.
func TestEmptyLists(t *testing.T) {
	for _, hold := range []int{0, 8} {
		want := run(client(t, hold), func(api.Msg, []api.Act, []api.Msg) {})
		x := client(t, hold)
		var got []told
		for _, m := range script() {
			if m.Kind == 0 {
				x.Ask(m.Seq)
				continue
			}
			if m.Keys == nil {
				m.Keys = []api.Key{}
			}
			if m.Entries == nil {
				m.Entries = []api.Entry{}
			}
			got = append(got, told{acts: x.Take(m), held: x.Held()})
		}
		if !slices.EqualFunc(got, want, likeTold) {
			t.Errorf("hold %d: %v, not %v", hold, got, want)
		}
	}
}

// R4

func TestTidesHaveNothingInCommon(t *testing.T) {
	alone := run(client(t, 8), func(api.Msg, []api.Act, []api.Msg) {})
	one, other := client(t, 8), client(t, 8)
	other.Ask(5)
	i := 0
	beside := run(one, func(m api.Msg, _ []api.Act, _ []api.Msg) {
		other.Take(flush(complex(float64(1+i/3), float64(i+1)), 50+i))
		other.Take(broken(complex(float64(1+i/3), float64(i+5)), 50+i, key(1, "")))
		i++
	})
	if !slices.EqualFunc(beside, alone, likeTold) {
		t.Errorf("%v, not %v", beside, alone)
	}
}
