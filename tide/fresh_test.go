package tide_test

import (
	"testing"

	"vista/api"
)

// P11.2: what is fresh.

func TestEntriesThatFreshBreaksName(t *testing.T) {
	entries := []api.Entry{none(1, "a"), file(1, "b", 4), file(2, "a", 5), none(2, ""), file(1, "", 6), none(1, "a"), none(0, ""), none(0, "a")}
	for _, c := range []struct {
		fresh api.Msg
		want  []api.Entry
	}{
		{broken(1+5i, 1), entries},
		{broken(1+5i, 1, key(3, "a"), key(3, "")), entries},
		{broken(1+5i, 1, key(1, "a")), []api.Entry{file(1, "b", 4), file(2, "a", 5), none(2, ""), file(1, "", 6), none(0, ""), none(0, "a")}},
		{broken(1+5i, 1, key(9, "z"), key(1, "b"), key(2, "a")), []api.Entry{none(1, "a"), none(2, ""), file(1, "", 6), none(1, "a"), none(0, ""), none(0, "a")}},
		{broken(1+5i, 1, key(1, "")), []api.Entry{file(2, "a", 5), none(2, ""), none(0, ""), none(0, "a")}},
		{broken(1+5i, 1, key(2, ""), key(0, "")), []api.Entry{none(1, "a"), file(1, "b", 4), file(1, "", 6), none(1, "a")}},
		{broken(1+5i, 1, key(1, ""), key(2, ""), key(0, "")), nil},
		{flush(1+5i, 1), nil},
	} {
		for _, e := range []api.Errno{api.OK, api.ErrNotDir} {
			for number := range 6 {
				x := at(t, 8, 1+4i)
				x.Ask(7)
				x.Take(c.fresh)
				m := reply(7, complex(1, float64(number)), 1, e, entries...)
				if number < 5 {
					does(t, x, m, part(e, c.want...))
				} else {
					// The break was made ahead of the reply, which tells what is behind it.
					does(t, x, m, whole(e, entries...))
				}
			}
		}
	}
}

// Each fresh break counts with its own number, the last one that names a key most of all.
func TestManyFreshBreaks(t *testing.T) {
	entries := []api.Entry{none(1, "a"), none(1, "b"), none(2, "a"), none(3, "c")}
	for number, want := range [][]api.Entry{
		{none(3, "c")}, {none(3, "c")}, {none(1, "b"), none(3, "c")}, {none(1, "b"), none(3, "c")}, {none(1, "b"), none(2, "a"), none(3, "c")}, entries, entries,
	} {
		x := at(t, 8, 1)
		x.Ask(7)
		x.Take(broken(1+1i, 1, key(1, "a"), key(1, "b")))
		x.Take(broken(1+2i, 2, key(1, "")))
		x.Take(broken(1+3i, 3, key(1, "a")))
		x.Take(broken(1+4i, 4, key(2, ""), key(1, "a")))
		x.Take(broken(1+5i, 5, key(1, "a")))
		x.Take(broken(1+6i, 6, key(8, "z")))
		act := part(api.OK, want...)
		act.Whole = number == 6
		does(t, x, reply(7, complex(1, float64(number)), 6, api.OK, entries...), act)
	}
}

func TestFreshFlushesAmongBreaks(t *testing.T) {
	entries := []api.Entry{none(1, "a"), none(1, "b"), none(2, "c")}
	for number, want := range [][]api.Entry{{}, {}, {}, {none(1, "b")}, {none(1, "b"), none(2, "c")}, entries} {
		x := at(t, 8, 1)
		x.Ask(7)
		x.Take(broken(1+1i, 1, key(1, "b")))
		x.Take(flush(1+3i, 3))
		x.Take(broken(1+4i, 4, key(2, "")))
		x.Take(broken(1+5i, 5, key(1, "a")))
		act := part(api.OK, want...)
		act.Whole = number == 5
		does(t, x, reply(7, complex(1, float64(number)), 6, api.OK, entries...), act)
	}
}

func TestWhole(t *testing.T) {
	// Without a fresh break each reply is whole, however old it is.
	for number := range 6 {
		x := at(t, 8, 1+5i)
		x.Ask(7)
		does(t, x, reply(7, complex(1, float64(number)), 1, api.OK, none(1, "a")), whole(api.OK, none(1, "a")))
	}
	// A break that names none of the entries makes it a part.
	x := at(t, 8, 1+5i)
	x.Ask(7)
	x.Take(broken(1+6i, 1, key(9, "z")))
	does(t, x, reply(7, 1+5i, 1, api.OK, none(1, "a")), part(api.OK, none(1, "a")))
	x.Ask(8)
	does(t, x, reply(8, 1+5i, 1, api.OK, none(1, "a")), whole(api.OK, none(1, "a")))
}

// What is applied while nothing is asked is never fresh.
func TestNothingIsFreshUnasked(t *testing.T) {
	x := at(t, 8, 1+5i)
	for _, no := range []int{0, -3} {
		x.Ask(no)
		n := x.Mark()
		x.Take(broken(n+1i, 1, key(1, "a")))
		x.Take(flush(n+2i, 1))
		x.Take(broken(n+4i, 1, key(1, "")))
		x.Take(broken(n+3i, 1, key(1, "a")))
		x.Ask(7)
		does(t, x, reply(7, n, 1, api.OK, none(1, "a")), whole(api.OK, none(1, "a")))
		// Nor is it behind the reply.
		x.Take(broken(n+5i, 1, key(1, "a")))
		x.Ask(8)
		does(t, x, reply(8, n, 1, api.OK, none(1, "a")), whole(api.OK, none(1, "a")))
	}
}

// A held break is fresh when it is applied, not when it comes.
func TestAHeldBreakIsFreshWhenItIsApplied(t *testing.T) {
	x := at(t, 8, 1)
	does(t, x, broken(1+2i, 1, key(1, "b")))
	x.Ask(7)
	does(t, x, broken(1+1i, 1, key(1, "a")), forgets(key(1, "a")), forgets(key(1, "b")))
	does(t, x, reply(7, 1+1i, 1, api.OK, none(1, "a"), none(1, "b")), part(api.OK, none(1, "a")))

	x = at(t, 8, 1)
	x.Ask(7)
	does(t, x, broken(1+2i, 1, key(1, "b")))
	x.Ask(0)
	does(t, x, broken(1+1i, 1, key(1, "a")), forgets(key(1, "a")), forgets(key(1, "b")))
	x.Ask(8)
	does(t, x, reply(8, 1, 1, api.OK, none(1, "a"), none(1, "b")), whole(api.OK, none(1, "a"), none(1, "b")))
}
