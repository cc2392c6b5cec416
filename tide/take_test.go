package tide_test

import (
	"fmt"
	"math"
	"testing"

	"vista/api"
	"vista/tide"
)

// P11.2

// busy is a tide at 2+3i, version 7, that has asked 5: one break is fresh, a break and a reply are held.
func busy(t *testing.T) *tide.Tide {
	t.Helper()
	x := at(t, 3, 2+2i)
	x.Ask(5)
	does(t, x, broken(2+3i, 7, key(1, "c")), forgets(key(1, "c")))
	does(t, x, heldBreak())
	does(t, x, heldReply())
	unchanged(t, x)
	return x
}

func heldBreak() api.Msg { return broken(2+6i, 9, key(1, "f")) }

func heldReply() api.Msg {
	return reply(5, 2+5i, 8, api.ErrRoom, none(1, "f"), file(1, "c", 3))
}

// unchanged fails if a busy tide is another one now, as far as it tells.
func unchanged(t *testing.T, x *tide.Tide) {
	t.Helper()
	stands(t, x, 2+3i, 7, 5, heldBreak(), heldReply())
}

// goesOn fails if a busy tide is another one now, as far as later messages tell.
func goesOn(t *testing.T, x *tide.Tide) {
	t.Helper()
	unchanged(t, x)
	does(t, x, reply(5, 2+2i, 1, api.ErrEpoch), again())
	unchanged(t, x)
	does(t, x, reply(5, 2+2i, 1, api.OK, none(1, "c"), none(1, "d")), part(api.OK, none(1, "d")))
	stands(t, x, 2+3i, 7, 0, heldBreak(), heldReply())
	x.Ask(5)
	does(t, x, broken(2+4i, 8, key(1, "d")), forgets(key(1, "d")))
	does(t, x, broken(2+5i, 8, key(1, "e")), forgets(key(1, "e")), forgets(key(1, "f")), part(api.ErrRoom, file(1, "c", 3)))
	stands(t, x, 2+6i, 9, 0)
}

// passes fails if a message is not passed over.
func passes(t *testing.T, m api.Msg) {
	t.Helper()
	x := busy(t)
	for range 2 {
		does(t, x, m)
		unchanged(t, x)
	}
	goesOn(t, x)
}

// everyKind are messages of all three kinds that count, and would be done, at a mark.
func everyKind(m complex128) []api.Msg {
	return []api.Msg{broken(m, 20, key(1, "x")), flush(m, 20), reply(5, m, 20, api.OK, none(1, "x")), reply(5, m, 20, api.ErrEpoch)}
}

func TestOtherKindsArePassedOver(t *testing.T) {
	for _, kind := range []int{api.MsgAsk, 0, -1, -api.MsgBreak, 5, 6, 1 << 32, 1<<32 + api.MsgBreak, math.MaxInt, math.MinInt} {
		for _, mark := range []complex128{2 + 3i, 2 + 4i, 2 + 9i, 3, 3 + 1i} {
			for _, m := range everyKind(mark) {
				m.Kind = kind
				passes(t, m)
			}
		}
	}
}

func TestOtherClientsArePassedOver(t *testing.T) {
	for _, mark := range []complex128{2 + 3i, 2 + 4i, 2 + 9i, 3, 3 + 1i} {
		for _, m := range everyKind(mark) {
			for _, other := range []int{0, 2, -1, api.MaxClients, 1 << 32, 1<<32 + 1, math.MaxInt, math.MinInt} {
				one, two := m, m
				one.Client, two.Life = other, other
				passes(t, one)
				passes(t, two)
			}
		}
	}
}

func TestMarksThatAreNotGoodArePassedOver(t *testing.T) {
	nan, inf := math.NaN(), math.Inf(1)
	wrong := []float64{0.5, 2.5, 3.000001, -1, -0.5, -3, nan, inf, -inf, api.MaxMark + 1, api.MaxMark + 0.5, 1e300, math.SmallestNonzeroFloat64}
	for _, part := range wrong {
		for _, good := range append([]float64{2, 3, 4}, wrong...) {
			for _, m := range append(everyKind(complex(part, good)), everyKind(complex(good, part))...) {
				passes(t, m)
			}
		}
	}
}

func TestEarlierEpochsArePassedOver(t *testing.T) {
	for _, mark := range []complex128{0, 1, 1 + 1i, 1 + 3i, 1 + 4i, 9i, 1 + api.MaxMark*1i} {
		for _, m := range everyKind(mark) {
			passes(t, m)
		}
	}
}

// A part -0 is 0.
func TestMinusZero(t *testing.T) {
	minus := math.Copysign(0, -1)
	x := client(t, 2)
	does(t, x, broken(complex(minus, 2), 2, key(1, "b")))
	does(t, x, broken(2i, 2, key(1, "b")))
	stands(t, x, 0, 0, 0, broken(2i, 2, key(1, "b")))
	does(t, x, broken(complex(minus, 1), 1, key(1, "a")), forgets(key(1, "a")), forgets(key(1, "b")))
	stands(t, x, 2i, 2, 0)
	x.Ask(3)
	does(t, x, reply(3, complex(3, minus), 1, api.OK), all(), whole(api.OK))
	does(t, x, broken(complex(4, minus), 9, key(1, "a")), all())
	stands(t, x, 4, 2, 0)
	for _, m := range []complex128{x.Mark(), at(t, 0, complex(minus, 5)).Mark()} {
		if math.Signbit(real(m)) || math.Signbit(imag(m)) {
			t.Errorf("the mark is %v", m)
		}
	}
}

func TestALaterEpoch(t *testing.T) {
	for _, epoch := range []float64{3, 4, api.MaxMark} {
		begin := complex(epoch, 0)
		for _, c := range []struct {
			m       api.Msg
			mark    complex128
			version int
			asked   int
			held    bool
			acts    []api.Act
		}{
			{m: broken(begin, 20, key(1, "x")), mark: begin, version: 7, asked: 5},
			{m: broken(begin+1i, 20, key(1, "x")), mark: begin + 1i, version: 20, asked: 5, acts: []api.Act{forgets(key(1, "x"))}},
			{m: broken(begin+2i, 20, key(1, "x")), mark: begin, version: 7, asked: 5, held: true},
			{m: broken(begin+4i, 20, key(1, "x")), mark: begin, version: 7, asked: 5, held: true},
			{m: flush(begin, 20), mark: begin, version: 7, asked: 5},
			{m: flush(begin+1i, 20), mark: begin + 1i, version: 20, asked: 5, acts: []api.Act{all()}},
			{m: flush(begin+9i, 20), mark: begin + 9i, version: 20, asked: 5, acts: []api.Act{all()}},
			{m: flush(begin+9i, 2), mark: begin + 9i, version: 7, asked: 5, acts: []api.Act{all()}},
			{m: reply(5, begin, 20, api.OK, none(1, "c")), mark: begin, version: 20, acts: []api.Act{whole(api.OK, none(1, "c"))}},
			{m: reply(5, begin, 20, api.ErrEpoch, none(1, "c")), mark: begin, version: 20, asked: 5, acts: []api.Act{again()}},
			{m: reply(5, begin+1i, 20, api.OK, none(1, "c")), mark: begin, version: 7, asked: 5, held: true},
			{m: reply(5, begin+9i, 20, api.ErrEpoch), mark: begin, version: 7, asked: 5, held: true},
			{m: reply(6, begin, 20, api.OK, none(1, "c")), mark: begin, version: 7, asked: 5},
			{m: reply(6, begin, 20, api.ErrEpoch), mark: begin, version: 7, asked: 5},
			{m: reply(0, begin+1i, 20, api.OK), mark: begin, version: 7, asked: 5},
		} {
			x := busy(t)
			does(t, x, c.m, append([]api.Act{all()}, c.acts...)...)
			var held []api.Msg
			if c.held {
				held = []api.Msg{c.m}
			}
			stands(t, x, c.mark, c.version, c.asked, held...)
			// The epoch is told once, and those ahead of it are passed over now.
			does(t, x, c.m, repeated(c.asked, c.m, c.held)...)
			does(t, x, broken(2+4i, 99, key(1, "d")))
			does(t, x, flush(2+9i, 99))
			does(t, x, reply(5, 2+3i, 99, api.OK))
			stands(t, x, c.mark, c.version, c.asked, held...)
		}
	}
}

// repeated are the acts of a message that has come just before: an ErrEpoch that is still asked is told again.
func repeated(asked int, m api.Msg, held bool) []api.Act {
	if m.Kind == api.MsgReply && m.Err == api.ErrEpoch && m.Seq == asked && !held {
		return []api.Act{again()}
	}
	return nil
}

// What was fresh, or held, in an earlier epoch is not so in a later one.
func TestALaterEpochMakesNothingFresh(t *testing.T) {
	for _, fresh := range []api.Msg{broken(2+3i, 1, key(1, "a"), key(1, "")), flush(2+3i, 1)} {
		for _, later := range []api.Msg{broken(3, 1), flush(3, 1), reply(6, 3, 1, api.OK), broken(3+9i, 1)} {
			x := at(t, 8, 2+2i)
			x.Ask(5)
			x.Take(fresh)
			x.Take(broken(2+5i, 1, key(1, "a")))
			x.Take(later)
			does(t, x, reply(5, 3, 1, api.OK, none(1, "a")), whole(api.OK, none(1, "a")))
			does(t, x, broken(3+1i, 1, key(1, "b")), forgets(key(1, "b")))
			does(t, x, broken(3+2i, 1, key(1, "c")), forgets(key(1, "c")))
		}
	}
}

func TestBreaks(t *testing.T) {
	for _, number := range []int{0, 3, 4, 5, 6, 7, 8, api.MaxMark} {
		for _, asked := range []int{0, 4} {
			x := at(t, 3, 2+5i)
			x.Ask(asked)
			m := broken(complex(2, float64(number)), 6, key(1, "a"), key(9, ""), key(1, "a"))
			switch {
			case number <= 5:
				does(t, x, m)
				stands(t, x, 2+5i, 0, asked)
			case number == 6:
				does(t, x, m, forgets(key(1, "a"), key(9, ""), key(1, "a")))
				stands(t, x, 2+6i, 6, asked)
			default:
				does(t, x, m)
				stands(t, x, 2+5i, 0, asked, m)
			}
		}
	}
}

func TestABreakWithoutKeysIsApplied(t *testing.T) {
	x := at(t, 3, 2+5i)
	does(t, x, broken(2+6i, 6), api.Act{})
	stands(t, x, 2+6i, 6, 0)
	// What a break's kind has no use for is not told.
	m := broken(2+7i, 6, key(1, "a"))
	m.Seq, m.Err, m.Entries = 4, api.ErrEpoch, []api.Entry{none(1, "b")}
	x.Ask(4)
	does(t, x, m, forgets(key(1, "a")))
	stands(t, x, 2+7i, 6, 4)
}

func TestFlushes(t *testing.T) {
	for _, number := range []int{0, 3, 4, 5, 6, 7, 8, 99, api.MaxMark} {
		for _, asked := range []int{0, 4} {
			x := at(t, 3, 2+5i)
			x.Ask(asked)
			m := flush(complex(2, float64(number)), 6)
			m.Keys, m.Entries, m.Seq = []api.Key{key(1, "a")}, []api.Entry{none(1, "a")}, 4
			if number <= 5 {
				does(t, x, m)
				stands(t, x, 2+5i, 0, asked)
			} else {
				does(t, x, m, all())
				stands(t, x, m.Mark, 6, asked)
			}
		}
	}
}

func TestReplies(t *testing.T) {
	for _, number := range []int{0, 4, 5, 6, 7, api.MaxMark} {
		for _, seq := range []int{4, 3, 5, 0, -4, math.MinInt, 1<<32 + 4} {
			for _, e := range []api.Errno{api.OK, api.ErrArg, api.ErrNotFound, api.ErrBusy, api.ErrEpoch, -1, 1000} {
				x := at(t, 3, 2+5i)
				x.Ask(4)
				m := reply(seq, complex(2, float64(number)), 6, e, file(1, "a", 7), none(2, ""), none(1, "a"))
				m.Keys = []api.Key{key(1, "a")}
				switch {
				case seq != 4:
					does(t, x, m)
					stands(t, x, 2+5i, 0, 4)
				case number > 5:
					does(t, x, m)
					stands(t, x, 2+5i, 0, 4, m)
				case e == api.ErrEpoch:
					does(t, x, m, again())
					stands(t, x, 2+5i, 6, 4)
				default:
					does(t, x, m, whole(e, file(1, "a", 7), none(2, ""), none(1, "a")))
					stands(t, x, 2+5i, 6, 0)
					does(t, x, m)
				}
			}
		}
	}
}

// A reply is used once; the next Ask is one for another.
func TestAReplyIsUsedOnce(t *testing.T) {
	x := at(t, 3, 1)
	for seq := 1; seq < 5; seq++ {
		x.Ask(seq)
		does(t, x, reply(seq-1, 1, seq, api.OK))
		does(t, x, reply(seq, 1, seq, api.OK, none(1, fmt.Sprint(seq))), whole(api.OK, none(1, fmt.Sprint(seq))))
		does(t, x, reply(seq, 1, 99, api.OK, none(1, fmt.Sprint(seq))))
		does(t, x, reply(seq, 1, 99, api.ErrEpoch))
		stands(t, x, 1, seq, 0)
	}
}

func TestErrEpochLeavesTheSeqAsked(t *testing.T) {
	x := at(t, 3, 1+1i)
	x.Ask(4)
	does(t, x, broken(1+2i, 2, key(1, "a")), forgets(key(1, "a")))
	for range 3 {
		does(t, x, reply(4, 1+1i, 3, api.ErrEpoch, none(1, "a")), again())
		stands(t, x, 1+2i, 3, 4)
	}
	// What was fresh is so still.
	does(t, x, reply(4, 1+1i, 1, api.OK, none(1, "a"), none(1, "b")), part(api.OK, none(1, "b")))
	stands(t, x, 1+2i, 3, 0)
}

func TestVersions(t *testing.T) {
	kinds := []func(x *tide.Tide, version int) []api.Act{
		func(x *tide.Tide, version int) []api.Act { return x.Take(broken(x.Mark()+1i, version, key(1, "a"))) },
		func(x *tide.Tide, version int) []api.Act { return x.Take(flush(x.Mark()+1i, version)) },
		func(x *tide.Tide, version int) []api.Act { return x.Take(reply(7, x.Mark(), version, api.OK)) },
		func(x *tide.Tide, version int) []api.Act { return x.Take(reply(7, x.Mark(), version, api.ErrLoop)) },
		func(x *tide.Tide, version int) []api.Act { return x.Take(reply(7, x.Mark(), version, api.ErrEpoch)) },
	}
	for i, take := range kinds {
		x, greatest := at(t, 3, 1), 0
		for _, version := range []int{0, -1, 5, 4, 5, 6, math.MinInt, 0, 1 << 40, 6, math.MaxInt, 1, math.MaxInt, math.MinInt} {
			x.Ask(7)
			if acts := take(x, version); len(acts) != 1 {
				t.Errorf("%d, version %d: %v", i, version, acts)
			}
			if greatest = max(greatest, version); x.Version() != greatest {
				t.Errorf("%d: the version is %d, not %d", i, x.Version(), greatest)
			}
		}
	}
}

// Of a message that is held, lost, or old, the version does not count.
func TestVersionsThatDoNotCount(t *testing.T) {
	x := at(t, 2, 2+5i)
	x.Ask(7)
	does(t, x, broken(2+5i, 9, key(1, "a")))
	does(t, x, flush(2+5i, 9))
	does(t, x, reply(6, 2+5i, 9, api.OK))
	does(t, x, broken(2+7i, 9, key(1, "b")))
	does(t, x, reply(7, 2+7i, 9, api.OK))
	does(t, x, broken(2+8i, 9, key(1, "c")))
	stands(t, x, 2+5i, 0, 7, broken(2+7i, 9, key(1, "b")), reply(7, 2+7i, 9, api.OK))
	does(t, x, reply(6, 3, 9, api.OK), all())
	stands(t, x, 3, 0, 7)
}

// Nothing is behind the last mark.
func TestTheLastMark(t *testing.T) {
	last := complex(api.MaxMark, api.MaxMark)
	x := at(t, 3, last-2i)
	does(t, x, broken(last, 2, key(1, "b")))
	x.Ask(4)
	does(t, x, reply(4, last, 3, api.OK, none(1, "b")))
	does(t, x, broken(last-1i, 1, key(1, "a")), forgets(key(1, "a")), forgets(key(1, "b")), whole(api.OK, none(1, "b")))
	stands(t, x, last, 3, 0)
	x.Ask(5)
	for _, beyond := range []complex128{last + 1i, last + 1, 0, last - 1} {
		for _, m := range everyKind(beyond) {
			does(t, x, m)
		}
	}
	does(t, x, broken(last, 9, key(1, "b")))
	does(t, x, flush(last, 9))
	stands(t, x, last, 3, 5)
	does(t, x, reply(5, last, 4, api.OK), whole(api.OK))
}
