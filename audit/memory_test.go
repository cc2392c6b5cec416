package audit_test

import (
	"math/rand"
	"reflect"
	"slices"
	"testing"

	"vista/api"
	"vista/audit"
	"vista/tree"
)

// R3

// spare is a list with room behind it, in which something stands that nobody is to see or change.
func spare[T any](list []T, behind T) []T {
	return append(slices.Clip(slices.Clone(list)), slices.Repeat([]T{behind}, 20)...)[:len(list)]
}

// roomy are sights with room behind them, and behind their names.
func roomy(sights []api.Sight) []api.Sight {
	list := spare(sights, api.Sight{Client: -7, Answer: api.Answer{Names: []string{"spare"}}})
	for i := range list {
		list[i].Answer.Names = spare(list[i].Answer.Names, "spare")
	}
	return list
}

// deep are sights, with all the room that they have, in memory of their own.
func deep(sights []api.Sight) []api.Sight {
	all := slices.Clone(sights[:cap(sights)])
	for i, s := range all {
		all[i].Answer.Names = slices.Clone(s.Answer.Names[:cap(s.Answer.Names)])
	}
	return all
}

// Lists that are handed in stay as they are, their spare room too.
func TestWhatIsHandedInStays(t *testing.T) {
	for seed := range 800 {
		r := rand.New(rand.NewSource(int64(seed)))
		ops, links := anyHistory(r, r.Intn(10)), anyLinks(r)
		given := watched(r, ops, 1+r.Intn(8), links)
		if r.Intn(2) == 0 {
			given = worsened(r, ops, given, links)
		}
		if r.Intn(3) == 0 {
			ops = broken(r, ops)
		}
		history, sights := spare(ops, mkdir(1, "spare", 0)), roomy(given)
		allOps, allSights := slices.Clone(history[:cap(history)]), deep(sights)
		audit.Check(history, sights, links)
		audit.At(history, r.Intn(len(history)+3)-1)
		for _, s := range sights {
			audit.Same(s.Answer, sights[0].Answer)
		}
		if !slices.Equal(history[:cap(history)], allOps) {
			t.Fatalf("at the seed %d: the history became %v", seed, history[:cap(history)])
		}
		if !reflect.DeepEqual(deep(sights), allSights) {
			t.Fatalf("at the seed %d: the sights became %+v", seed, deep(sights))
		}
	}
}

// What stands in the spare room is no op, no sight and no name.
func TestSpareRoomIsNotRead(t *testing.T) {
	history := spare(example(), mkdir(1, "spare", 0))
	noTree(t, history, 4, api.ErrArg)
	like(t, at(t, history, 3), at(t, example(), 3))
	checks(t, history, 0, sees(1, 1, 4, readdir("/"), lists("a", "spare")))
	wrong := sees(1, 1, 9, readdir("/"), lists("x"))
	checks(t, history, -1, spare([]api.Sight{sees(1, 1, 3, readdir("/"), lists("a"))}, wrong)...)
	checks(t, history, -1, sees(1, 1, 3, readdir("/"), lists(spare([]string{"a"}, "b")...)))
	if got := audit.Check(history, spare([]api.Sight{}, wrong), 3); got != -1 {
		t.Errorf("Check is %d", got)
	}
	if a, b := lists(spare([]string{"a"}, "b")...), lists(spare([]string{"a"}, "c")...); !audit.Same(a, b) {
		t.Error("names are not the same for what stands behind them")
	}
}

// A tree is the caller's: what was handed in may be written over, and one tree may be changed, without another one being another one.
func TestTreesAreNew(t *testing.T) {
	history := example()
	one, other, early := at(t, history, 3), at(t, history, 3), at(t, history, 1)
	for i := range history {
		history[i] = mkdir(1, "spoilt", 0)
	}
	want := at(t, example(), 3)
	like(t, one, want)
	like(t, other, want)
	if _, _, e := one.Apply(rmdir(1, "a")); e != api.OK {
		t.Fatal(e)
	}
	like(t, other, want)
	like(t, at(t, example(), 3), want)
	like(t, early, at(t, example(), 1))
	empty := at(t, nil, 0)
	empty.Apply(mkdir(1, "x", 1))
	like(t, at(t, nil, 0), tree.New())
}

// Names that were told may be written over, their spare room too.
func TestNamesAreNewMemory(t *testing.T) {
	for seed := range 300 {
		r := rand.New(rand.NewSource(int64(seed)))
		history := anyHistory(r, 1+r.Intn(15))
		x := at(t, history, len(history))
		entries := x.Dump()
		for range 5 {
			call := readdir(anyPath(r, 2))
			want := modelled(x, call, 3)
			first, second := audit.Answer(x, call, 3), audit.Answer(x, call, 3)
			names := first.Names[:cap(first.Names)]
			for i := range names {
				names[i] = "spoilt"
			}
			answers(t, x, call, 3, want)
			if !audit.Same(second, want) || !slices.Equal(x.Dump(), entries) {
				t.Fatalf("at the seed %d: %+v, not %+v; the tree is %v", seed, second, want, x.Dump())
			}
		}
		if t.Failed() {
			t.Fatalf("at the seed %d", seed)
		}
	}
}

// R4

// The same is answered again, whatever was asked between; what another history was held against makes no difference.
func TestTheSameAgain(t *testing.T) {
	for seed := range 200 {
		r := rand.New(rand.NewSource(int64(seed)))
		history, links := anyHistory(r, 1+r.Intn(10)), anyLinks(r)
		sights := worsened(r, history, watched(r, history, 10, links), links)
		first := audit.Check(history, sights, links)
		for range 4 {
			other := anyHistory(r, 1+r.Intn(10))
			audit.Check(other, watched(r, other, 5, 3), 3)
			audit.Check(other, sights, 3)
			if got := audit.Check(history, sights, links); got != first {
				t.Fatalf("at the seed %d: %d, and it was %d", seed, got, first)
			}
		}
	}
}
