package call_test

import (
	"math/rand"
	"slices"
	"testing"

	"vista/api"
	"vista/call"
)

// R3, R4

// roomy is a message whose lists have spare room, with something in it.
func roomy(m api.Msg) api.Msg {
	m.Keys = append(slices.Clone(m.Keys), slices.Repeat([]api.Key{key(1, "spare")}, 9)...)[:len(m.Keys)]
	m.Entries = append(slices.Clone(m.Entries), slices.Repeat([]api.Entry{file(1, "spare", 9)}, 9)...)[:len(m.Entries)]
	return m
}

// spoil writes over a list, its spare room too.
func spoil[T any](list []T, with T) {
	all := list[:cap(list)]
	for i := range all {
		all[i] = with
	}
}

// spoilMsg writes over the lists of a message.
func spoilMsg(m api.Msg) {
	spoil(m.Keys, key(1, "spoilt"))
	spoil(m.Entries, folder(1, "spoilt", 1))
}

// ruin writes over all that was told.
func ruin(o outcome) {
	for _, m := range o.out {
		spoilMsg(m)
	}
	spoil(o.out, api.Msg{Kind: -77, Op: list(-77), Entries: []api.Entry{file(1, "ruined", 2)}})
	spoil(o.answer.Names, "ruined")
}

// copied is what was told, in memory of its own.
func (o outcome) copied() outcome {
	o.out = slices.Clone(o.out)
	o.answer.Names = slices.Clone(o.answer.Names)
	return o
}

// event is a step of a script: a call, a message, a cancel, or, where it is none of these, a tick.
type event struct {
	call    api.Call
	m       api.Msg
	cancels bool
}

// script is what a made-up pair has been through, with all kinds of calls and messages.
func script(t *testing.T, seed int64, conf api.Conf) []event {
	t.Helper()
	r := rand.New(rand.NewSource(seed))
	p := newPair(t, 1, 1, conf)
	var all []event
	for range 80 {
		var e event
		switch {
		case r.Intn(30) == 0:
			e.cancels = true
			p.cancel(t)
		case r.Intn(30) == 0:
			p.tick(t)
		case p.m.call.Kind == 0 && r.Intn(5) > 0:
			e.call = anyCall(r)
			p.start(t, e.call)
		default:
			e.m = anyMessage(r, p)
			p.take(t, e.m)
		}
		all = append(all, e)
	}
	return all
}

// step does an event, and tells what comes of it, with the message as it was handed in.
func step(c *call.Client, e event) (api.Msg, outcome) {
	switch {
	case e.call != (api.Call{}):
		return api.Msg{}, of(c.Start(e.call))
	case e.m.Client != 0:
		m := roomy(e.m)
		return m, of(c.Take(m))
	case e.cancels:
		done, answer := c.Cancel()
		return api.Msg{}, outcome{done: done, answer: answer}
	}
	return api.Msg{}, outcome{out: c.Tick()}
}

// seen is what a client told in a step, and what its cache was behind it.
type seen struct {
	told    outcome
	entries []api.Entry
}

func likeSeen(a, b seen) bool {
	return a.told.like(b.told) && slices.Equal(a.entries, b.entries)
}

// run does a script; behind each step it is shown the message, what was told, and the entries.
func run(c *call.Client, all []event, behind func(m api.Msg, o outcome, entries []api.Entry)) []seen {
	var told []seen
	for _, e := range all {
		m, o := step(c, e)
		entries := c.Entries()
		told = append(told, seen{o.copied(), slices.Clone(entries)})
		behind(m, o, entries)
	}
	return told
}

// A message that is handed in stays as it is, its spare room too.
func TestMessagesStay(t *testing.T) {
	for seed := range int64(200) {
		conf := anyConf(rand.New(rand.NewSource(seed)))
		all, i := script(t, seed, conf), 0
		run(client(t, conf), all, func(m api.Msg, _ outcome, _ []api.Entry) {
			if want := roomy(all[i].m); all[i].m.Client != 0 && (!likeMsg(m, want) ||
				!slices.Equal(m.Keys[:len(m.Keys)+9], want.Keys[:len(want.Keys)+9]) || !slices.Equal(m.Entries[:len(m.Entries)+9], want.Entries[:len(want.Entries)+9])) {
				t.Errorf("%+v was changed to %+v", want, m)
			}
			i++
		})
		if t.Failed() {
			t.Fatalf("at the seed %d", seed)
		}
	}
}

// What was handed in, and what was told, may be written over: all that is told behind that is the same.
func TestNothingIsShared(t *testing.T) {
	for seed := range int64(200) {
		conf := anyConf(rand.New(rand.NewSource(seed)))
		all := script(t, seed, conf)
		want := run(client(t, conf), all, func(api.Msg, outcome, []api.Entry) {})
		for what, spoils := range map[string]func(m api.Msg, o outcome, entries []api.Entry){
			"messages": func(m api.Msg, _ outcome, _ []api.Entry) { spoilMsg(m) },
			"answers":  func(_ api.Msg, o outcome, _ []api.Entry) { ruin(o) },
			"entries":  func(_ api.Msg, _ outcome, entries []api.Entry) { spoil(entries, none(1, "spoilt")) },
		} {
			if got := run(client(t, conf), all, spoils); !slices.EqualFunc(got, want, likeSeen) {
				t.Fatalf("seed %d, %s written over: %v, not %v", seed, what, got, want)
			}
		}
	}
}

// What was told stays as it is, whatever comes behind it, and whatever becomes of the messages.
func TestAnswersStay(t *testing.T) {
	for seed := range int64(200) {
		conf := anyConf(rand.New(rand.NewSource(seed)))
		var messages []api.Msg
		var told []seen
		want := run(client(t, conf), script(t, seed, conf), func(m api.Msg, o outcome, entries []api.Entry) {
			messages = append(messages, m)
			told = append(told, seen{o, entries})
		})
		for _, m := range messages {
			spoilMsg(m)
		}
		if !slices.EqualFunc(told, want, likeSeen) {
			t.Fatalf("seed %d: %v is now %v", seed, want, told)
		}
	}
}

// Held messages are not kept as they were handed in; names that were told are no part of the cache, nor of the reply.
func TestHeldAndListed(t *testing.T) {
	c := knows(t, limits(), folder(1, "d", 2))
	of(c.Start(readdir("/d"))).sends(t, ask(2, 1, list(2)))
	held := roomy(reply(2, 1+1i, 6, api.OK, file(2, "f", 3), file(2, "g", 4)))
	of(c.Take(held)).sends(t)
	spoilMsg(held)
	cut := roomy(broken(1+2i, 7, key(9, "x")))
	of(c.Take(cut)).sends(t)
	spoilMsg(cut)
	last := roomy(broken(1+1i, 6, key(9, "y")))
	// Behind a held break the reply is whole no more.
	of(c.Take(last)).sends(t, ask(3, 1+2i, list(2)))
	spoilMsg(last)
	holds(t, c, file(2, "f", 3), file(2, "g", 4), folder(1, "d", 2))
	answer := roomy(reply(3, 1+2i, 7, api.OK, file(2, "f", 3), file(2, "g", 4)))
	o := of(c.Take(answer))
	o.ends(t, tells(7, "f", "g"))
	spoilMsg(answer)
	o.ends(t, tells(7, "f", "g"))
	other := of(c.Start(readdir("/d")))
	ruin(o)
	other.ends(t, tells(7, "f", "g"))
	ruin(other)
	of(c.Start(readdir("/d"))).ends(t, tells(7, "f", "g"))

	// With no room the names are the reply's, and in new memory all the same.
	conf := limits()
	conf.Dentries = 1
	c = knows(t, conf)
	of(c.Start(readdir("/"))).sends(t, ask(1, 1, list(1)))
	answer = roomy(reply(1, 1, 7, api.OK, file(1, "f", 3), file(1, "g", 4)))
	o = of(c.Take(answer))
	spoilMsg(answer)
	o.ends(t, tells(7, "f", "g"))
}

// nil and an empty list are one.
func TestEmptyLists(t *testing.T) {
	for seed := range int64(100) {
		conf := anyConf(rand.New(rand.NewSource(seed)))
		all := script(t, seed, conf)
		want := run(client(t, conf), all, func(api.Msg, outcome, []api.Entry) {})
		c := client(t, conf)
		for i, e := range all {
			if e.m.Client == 0 {
				step(c, e)
				continue
			}
			if len(e.m.Keys) == 0 {
				e.m.Keys = []api.Key{}
			}
			if len(e.m.Entries) == 0 {
				e.m.Entries = []api.Entry{}
			}
			if got := of(c.Take(e.m)); !got.like(want[i].told) {
				t.Fatalf("seed %d: %+v, not %+v", seed, got, want[i].told)
			}
		}
	}
}

// Two clients have nothing in common.
func TestClientsHaveNothingInCommon(t *testing.T) {
	for seed := range int64(100) {
		conf := anyConf(rand.New(rand.NewSource(seed)))
		all, others := script(t, seed, conf), script(t, seed+1000, conf)
		want := run(client(t, conf), all, func(api.Msg, outcome, []api.Entry) {})
		other, i := client(t, conf), 0
		got := run(client(t, conf), all, func(api.Msg, outcome, []api.Entry) {
			step(other, others[i])
			i++
		})
		if !slices.EqualFunc(got, want, likeSeen) {
			t.Fatalf("seed %d: %v, not %v", seed, got, want)
		}
	}
}
