package tide_test

import (
	"testing"

	"vista/api"
)

// P11.2: what is held, and when it is let go.

func TestTheSameIsHeldOnce(t *testing.T) {
	x := at(t, 8, 1)
	x.Ask(3)
	first, answer := broken(1+3i, 3, key(1, "c")), reply(3, 1+3i, 3, api.OK, none(1, "x"))
	does(t, x, first)
	does(t, x, first)
	// It is the mark that counts, and the first one that stays.
	does(t, x, broken(1+3i, 9, key(1, "other")))
	stands(t, x, 1, 0, 3, first)
	// A break and a reply of one mark are two.
	does(t, x, answer)
	does(t, x, answer)
	does(t, x, reply(3, 1+3i, 9, api.ErrEpoch, none(1, "other")))
	stands(t, x, 1, 0, 3, first, answer)
	does(t, x, broken(1+3i, 9, key(1, "other")))
	does(t, x, broken(1+4i, 4, key(1, "d")))
	does(t, x, reply(3, 1+2i, 2, api.OK))
	stands(t, x, 1, 0, 3, first, answer, broken(1+4i, 4, key(1, "d")), reply(3, 1+2i, 2, api.OK))
}

func TestAHoldOfNone(t *testing.T) {
	x := at(t, 0, 1)
	x.Ask(3)
	does(t, x, broken(1+2i, 2, key(1, "b")))
	does(t, x, reply(3, 1+1i, 2, api.OK))
	stands(t, x, 1, 0, 3)
	does(t, x, broken(1+1i, 1, key(1, "a")), forgets(key(1, "a")))
	does(t, x, reply(3, 1+2i, 2, api.OK))
	does(t, x, broken(1+2i, 2, key(1, "b")), forgets(key(1, "b")))
	does(t, x, reply(3, 1+2i, 2, api.OK), whole(api.OK))
	stands(t, x, 1+2i, 2, 0)
}

func TestAFullHold(t *testing.T) {
	for hold := 1; hold <= api.MaxHold; hold++ {
		x := at(t, hold, 1)
		x.Ask(3)
		var held []api.Msg
		for n := range hold {
			m := broken(complex(1, float64(n+3)), n, key(1, "x"))
			if n%2 == 1 {
				m = reply(3, m.Mark, n, api.OK, none(1, "y"))
			}
			does(t, x, m)
			held = append(held, m)
			stands(t, x, 1, 0, 3, held...)
		}
		// One more is lost; it is not that an older one goes.
		does(t, x, broken(1+20i, 1, key(1, "x")))
		does(t, x, broken(1+2i, 1, key(1, "x")))
		does(t, x, reply(3, 1+20i, 1, api.OK))
		does(t, x, reply(3, 1+1i, 1, api.OK))
		does(t, x, held[0])
		stands(t, x, 1, 0, 3, held...)
		// What can be done at once needs no room.
		does(t, x, broken(1+1i, 1, key(1, "a")), forgets(key(1, "a")))
		does(t, x, reply(3, 1+1i, 1, api.ErrEpoch), again())
		stands(t, x, 1+1i, 1, 3, held...)
	}
}

func TestRoomComesBack(t *testing.T) {
	x := at(t, 2, 1)
	does(t, x, broken(1+2i, 2, key(1, "b")))
	does(t, x, broken(1+4i, 4, key(1, "d")))
	does(t, x, broken(1+5i, 5, key(1, "e")))
	does(t, x, broken(1+1i, 1, key(1, "a")), forgets(key(1, "a")), forgets(key(1, "b")))
	stands(t, x, 1+2i, 2, 0, broken(1+4i, 4, key(1, "d")))
	does(t, x, broken(1+5i, 5, key(1, "e")))
	stands(t, x, 1+2i, 2, 0, broken(1+4i, 4, key(1, "d")), broken(1+5i, 5, key(1, "e")))
	does(t, x, broken(1+3i, 3, key(1, "c")), forgets(key(1, "c")), forgets(key(1, "d")), forgets(key(1, "e")))
	stands(t, x, 1+5i, 5, 0)
}

// Held breaks are applied by their numbers, in whatever order they came.
func TestHeldBreaksAreAppliedInTheirOrder(t *testing.T) {
	x := at(t, 8, 1)
	for _, n := range []int{5, 3, 7, 2, 4, 9} {
		does(t, x, broken(complex(1, float64(n)), n, key(n, "")))
	}
	does(t, x, broken(1+1i, 1, key(1, "")), forgets(key(1, "")), forgets(key(2, "")), forgets(key(3, "")), forgets(key(4, "")), forgets(key(5, "")))
	stands(t, x, 1+5i, 5, 0, broken(1+7i, 7, key(7, "")), broken(1+9i, 9, key(9, "")))
	does(t, x, broken(1+6i, 6, key(6, "")), forgets(key(6, "")), forgets(key(7, "")))
	does(t, x, broken(1+8i, 8, key(8, "")), forgets(key(8, "")), forgets(key(9, "")))
	stands(t, x, 1+9i, 9, 0)
}

// A held break that can be applied goes ahead of a held reply that can be used: what it names is not told.
func TestHeldBreaksGoAheadOfHeldReplies(t *testing.T) {
	for _, replyFirst := range []bool{true, false} {
		x := at(t, 8, 1)
		x.Ask(3)
		answer := reply(3, 1+1i, 1, api.OK, none(1, "a"), none(1, "b"), none(1, "c"), none(1, "d"))
		breaks := []api.Msg{broken(1+3i, 3, key(1, "c")), broken(1+2i, 2, key(1, "b"))}
		if replyFirst {
			does(t, x, answer)
		}
		does(t, x, breaks[0])
		does(t, x, breaks[1])
		if !replyFirst {
			does(t, x, answer)
		}
		does(t, x, broken(1+1i, 1, key(1, "a")), forgets(key(1, "a")), forgets(key(1, "b")), forgets(key(1, "c")), part(api.OK, none(1, "a"), none(1, "d")))
		stands(t, x, 1+3i, 3, 0)
	}
}

// A reply that comes at last is used at once, ahead of what is held.
func TestAReplyThatComesIsUsedAtOnce(t *testing.T) {
	x := at(t, 8, 1)
	x.Ask(3)
	does(t, x, broken(1+2i, 2, key(1, "b")))
	does(t, x, reply(3, 1, 0, api.OK, none(1, "b")), whole(api.OK, none(1, "b")))
	stands(t, x, 1, 0, 0, broken(1+2i, 2, key(1, "b")))
}

// Of the held replies that can be used the one held longest is; the others are let go.
func TestTheFirstHeldReplyIsUsed(t *testing.T) {
	x := at(t, 8, 1)
	x.Ask(3)
	does(t, x, reply(3, 1+2i, 2, api.OK, none(1, "two")))
	does(t, x, reply(3, 1+1i, 1, api.OK, none(1, "one")))
	does(t, x, reply(3, 1+4i, 4, api.OK, none(1, "four")))
	does(t, x, broken(1+1i, 1, key(1, "a")), forgets(key(1, "a")), whole(api.OK, none(1, "one")))
	// What is not asked any more waits till its number has come.
	stands(t, x, 1+1i, 1, 0, reply(3, 1+2i, 2, api.OK, none(1, "two")), reply(3, 1+4i, 4, api.OK, none(1, "four")))
	does(t, x, broken(1+2i, 2, key(1, "b")), forgets(key(1, "b")))
	stands(t, x, 1+2i, 2, 0, reply(3, 1+4i, 4, api.OK, none(1, "four")))
	does(t, x, flush(1+6i, 3), all())
	stands(t, x, 1+6i, 3, 0)

	x = at(t, 8, 1)
	x.Ask(3)
	does(t, x, reply(3, 1+2i, 7, api.OK, none(1, "two")))
	does(t, x, reply(3, 1+1i, 9, api.OK, none(1, "one")))
	does(t, x, flush(1+2i, 1), all(), whole(api.OK, none(1, "two")))
	stands(t, x, 1+2i, 7, 0)
}

// A reply that is asked no more counts again, if its Seq is asked again while it is held.
func TestAHeldReplyOfASeqThatIsAskedAgain(t *testing.T) {
	x := at(t, 8, 1)
	x.Ask(3)
	does(t, x, reply(3, 1+2i, 2, api.OK, none(1, "two")))
	does(t, x, reply(3, 1, 1, api.OK, none(1, "one")), whole(api.OK, none(1, "one")))
	x.Ask(3)
	stands(t, x, 1, 1, 3, reply(3, 1+2i, 2, api.OK, none(1, "two")))
	does(t, x, flush(1+2i, 1), all(), whole(api.OK, none(1, "two")))
	stands(t, x, 1+2i, 2, 0)
}

// Behind a held ErrEpoch the Seq is asked still: the next reply counts.
func TestHeldErrEpoch(t *testing.T) {
	x := at(t, 8, 1)
	x.Ask(3)
	does(t, x, reply(3, 1+1i, 5, api.ErrEpoch, none(1, "a")))
	does(t, x, reply(3, 1+2i, 4, api.ErrEpoch))
	does(t, x, reply(3, 1+3i, 6, api.ErrLoop, none(1, "a"), none(1, "b")))
	does(t, x, reply(3, 1+4i, 7, api.ErrEpoch))
	does(t, x, broken(1+4i, 3, key(1, "b")))
	does(t, x, flush(1+3i, 1), all(), forgets(key(1, "b")), again(), again(), part(api.ErrLoop, none(1, "a")))
	stands(t, x, 1+4i, 6, 0)
}

// A flush lets go what it stands for, and goes on with what is behind it.
func TestAFlushAmongHeldMessages(t *testing.T) {
	x := at(t, 8, 1)
	x.Ask(3)
	for _, n := range []int{3, 7, 5, 6, 9} {
		does(t, x, broken(complex(1, float64(n)), n, key(n, "")))
	}
	does(t, x, reply(3, 1+5i, 5, api.OK, none(6, "f"), none(8, "h")))
	does(t, x, flush(1+5i, 1), all(), forgets(key(6, "")), forgets(key(7, "")), part(api.OK, none(8, "h")))
	stands(t, x, 1+7i, 7, 0, broken(1+9i, 9, key(9, "")))

	x = at(t, 8, 1)
	does(t, x, broken(1+2i, 9, key(1, "b")))
	does(t, x, broken(1+3i, 9, key(1, "c")))
	does(t, x, broken(1+5i, 9, key(1, "e")))
	does(t, x, flush(1+3i, 3), all())
	stands(t, x, 1+3i, 3, 0, broken(1+5i, 9, key(1, "e")))
	// What was let go is old now.
	does(t, x, broken(1+3i, 9, key(1, "c")))
	stands(t, x, 1+3i, 3, 0, broken(1+5i, 9, key(1, "e")))
}
