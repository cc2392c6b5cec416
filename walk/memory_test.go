package walk_test

import (
	"math/rand"
	"slices"
	"strings"
	"testing"

	"vista/api"
	"vista/walk"
)

// R3

// spare is a list with room behind it, in which entries stand that nobody is to see or change.
func spare[T any](list []T, behind T) []T {
	return append(slices.Clip(slices.Clone(list)), slices.Repeat([]T{behind}, 60)...)[:len(list)]
}

// Fresh entries and components that are handed in stay as they are, their spare room too.
func TestWhatIsHandedInStays(t *testing.T) {
	for seed := range 3000 {
		r := rand.New(rand.NewSource(int64(seed)))
		dirs := shapes()[seed%len(shapes())]
		c, list := madeUp(r, dirs)
		fresh, steps := spare(list, file(1, "spare", -9)), spare(anySteps(r), "spare")
		allFresh, allSteps := slices.Clone(fresh[:cap(fresh)]), slices.Clone(steps[:cap(steps)])
		walk.Steps(c, fresh, steps, r.Intn(2) == 0, r.Intn(2) == 0, anyLinks(r))
		walk.Walk(c, fresh, "/"+anyPath(r, 8), r.Intn(2) == 0, anyLinks(r))
		if !slices.Equal(fresh[:cap(fresh)], allFresh) {
			t.Fatalf("at the seed %d: fresh entries became %v", seed, fresh[:cap(fresh)])
		}
		if !slices.Equal(steps[:cap(steps)], allSteps) {
			t.Fatalf("at the seed %d: components became %v", seed, steps[:cap(steps)])
		}
	}
}

// A link's components take no room in the list that was handed in, wherever the link stands.
func TestTargetsTakeNoRoomOfTheSteps(t *testing.T) {
	c := cache(folder(1, "a", 1), link(1, "l", 4, strings.Repeat("a/", 40)), link(1, "e", 5, "/"))
	for at := range 6 {
		for _, met := range []string{"l", "e"} {
			list := slices.Repeat([]string{"a"}, 6)
			list[at] = met
			steps := spare(list, "spare")
			whole := slices.Clone(steps[:cap(steps)])
			if out := walk.Steps(c, nil, steps, true, true, 3); out.Err != api.OK || out.Need {
				t.Errorf("%v: %+v", list, out)
			}
			if !slices.Equal(steps[:cap(steps)], whole) {
				t.Errorf("%v became %v", list, steps[:cap(steps)])
			}
		}
	}
}

// What stands in the spare room is not known, nor is it walked.
func TestSpareRoomIsNotRead(t *testing.T) {
	fresh := spare([]api.Entry{file(1, "a", 2)}, file(1, "b", 3))
	comes(t, "fresh", walk.Walk(cache(), fresh, "/b", true, 3), needs(key(1, "b")))
	comes(t, "steps", walk.Steps(cache(), fresh, spare([]string{"a"}, "b"), false, true, 3), finds(file(1, "a", 2).Node, key(1, "a")))
}

// spoil writes over a list of keys, its spare room too.
func spoil(keys []api.Key) {
	all := keys[:cap(keys)]
	for i := range all {
		all[i] = key(-77, "spoilt")
	}
}

// The used keys may be written over, and what was handed in, too: no other answer, and no walk behind it, is another one then.
func TestAnswersAreNewMemory(t *testing.T) {
	for seed := range 1500 {
		r := rand.New(rand.NewSource(int64(seed)))
		c, list := madeUp(r, shapes()[seed%len(shapes())])
		entries := c.Entries()
		fresh, steps := slices.Clone(list), anySteps(r)
		dir, follow, links := r.Intn(2) == 0, r.Intn(2) == 0, anyLinks(r)
		want, _ := modelled(c, list, steps, dir, follow, links)

		first := walk.Steps(c, fresh, steps, dir, follow, links)
		second := walk.Steps(c, fresh, steps, dir, follow, links)
		spoil(first.Used)
		comes(t, "the second one", second, want)
		comes(t, "walked anew", walk.Steps(c, fresh, steps, dir, follow, links), want)
		if !slices.Equal(fresh, list) || !slices.Equal(c.Entries(), entries) {
			t.Errorf("fresh entries and cache became %v, %v", fresh, c.Entries())
		}
		// Lists that were handed in are not kept in the answer.
		for i := range fresh {
			fresh[i] = file(-7, "spoilt", -7)
		}
		for i := range steps {
			steps[i] = "spoilt"
		}
		c.Clear()
		comes(t, "behind all that", second, want)
		if t.Failed() {
			t.Fatalf("at the seed %d", seed)
		}
	}
}

// The cache is as it was behind a walk: its entries, their order of use, what is whole.
func TestTheCacheStays(t *testing.T) {
	c := set(cache(folder(1, "a", 2), link(2, "l", 4, "../b/"), file(1, "b", 3), none(1, "n"), link(1, "m", 5, "m")), 2, 7)
	before := c.Entries()
	fresh := []api.Entry{file(1, "x", 8), folder(1, "a", 2), none(2, "fresh")}
	for _, path := range []string{"/a/l", "/a", "/n", "/m", "/b", "/x", "/unknown", "/a/none", "/a/fresh", "/a/..", "no path", "/"} {
		for _, follow := range []bool{false, true} {
			walk.Walk(c, nil, path, follow, 3)
			walk.Walk(c, fresh, path, follow, 3)
			if got := c.Entries(); !slices.Equal(got, before) {
				t.Fatalf("behind %q: %v, not %v", path, got, before)
			}
		}
	}
	for dir := range 9 {
		if c.Whole(dir) != (dir == 2 || dir == 7) {
			t.Errorf("Whole(%d): %v", dir, c.Whole(dir))
		}
	}
	if c.Len() != 5 || c.Negatives() != 1 {
		t.Errorf("%d entries, %d of them Neg", c.Len(), c.Negatives())
	}
	for seed := range 1500 {
		r := rand.New(rand.NewSource(int64(seed)))
		dirs := shapes()[seed%len(shapes())]
		c, fresh := madeUp(r, dirs)
		before := c.Entries()
		var whole []bool
		for _, dir := range dirs {
			whole = append(whole, c.Whole(dir))
		}
		for range 4 {
			walk.Walk(c, fresh, "/"+anyPath(r, 8), r.Intn(2) == 0, anyLinks(r))
		}
		for at, dir := range dirs {
			if c.Whole(dir) != whole[at] {
				t.Fatalf("at the seed %d: Whole(%d): %v", seed, dir, c.Whole(dir))
			}
		}
		if !slices.Equal(c.Entries(), before) {
			t.Fatalf("at the seed %d: %v, not %v", seed, c.Entries(), before)
		}
	}
}

// nil and an empty list are one.
func TestNilAndEmpty(t *testing.T) {
	c := cache(folder(1, "a", 2))
	for _, fresh := range [][]api.Entry{nil, {}, make([]api.Entry, 0, 3)} {
		for _, steps := range [][]string{nil, {}, make([]string, 0, 3)} {
			comes(t, "empty lists", walk.Steps(c, fresh, steps, true, true, 3), finds(root()))
		}
		comes(t, "empty lists", walk.Walk(c, fresh, "/a", true, 3), finds(folder(1, "a", 2).Node, key(1, "a")))
	}
}
