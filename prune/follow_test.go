package prune_test

import (
	"math"
	"math/rand"
	"slices"
	"strconv"
	"testing"

	"vista/api"
	"vista/dent"
	"vista/prune"
	"vista/tree"
)

// P13.3

// anyName is a made-up name, one of few, so that it is often one that is there.
func anyName(r *rand.Rand) string {
	return []string{"a", "b", "B", "c", "\xff"}[r.Intn(5)]
}

// anyDir is the id of some directory of a tree.
func anyDir(r *rand.Rand, x *tree.Tree) int {
	ids := []int{api.Root}
	for _, e := range x.Dump() {
		if e.Node.Kind == api.KindDir {
			ids = append(ids, e.Node.ID)
		}
	}
	return ids[r.Intn(len(ids))]
}

// anyOp is a made-up mutation of a tree; those that make something come most often.
func anyOp(r *rand.Rand, x *tree.Tree) api.Op {
	op := api.Op{Dir: anyDir(r, x), Name: anyName(r)}
	switch r.Intn(8) {
	case 0, 1, 2:
		op.Kind, op.Mode = api.OpMkdir, r.Intn(api.MaxMode+1)
	case 3, 4:
		op.Kind, op.Mode = api.OpCreate, r.Intn(api.MaxMode+1)
	case 5:
		op.Kind, op.To, op.New = api.OpRename, anyDir(r, x), anyName(r)
	case 6:
		op.Kind = api.OpUnlink
	case 7:
		op.Kind = api.OpRmdir
	}
	return op
}

// grown is a tree behind made-up mutations.
func grown(r *rand.Rand, mutations int) *tree.Tree {
	x := tree.New()
	for range mutations {
		x.Apply(anyOp(r, x))
	}
	return x
}

// learn does to a cache one of the things that a client does, with what is so in a tree; or it mutates the tree, and cuts.
func learn(r *rand.Rand, x *tree.Tree, c *dent.Cache) {
	dir := anyDir(r, x)
	switch r.Intn(8) {
	case 0, 1, 2:
		e, _ := x.Look(dir, anyName(r))
		c.Put(e)
	case 3, 4:
		entries, _ := x.List(dir)
		for _, e := range entries {
			c.Put(e)
		}
		c.SetWhole(dir)
	case 5, 6:
		c.Use(key(dir, anyName(r)))
	case 7:
		_, keys, _ := x.Apply(anyOp(r, x))
		c.Cut(keys)
	}
}

// follows trims a cache in which entries hang on one another as in a tree, and fails if not all that the chapter says follows.
func follows(t *testing.T, c *dent.Cache, dirs []int, most, negative int) {
	t.Helper()
	before := modelOf(c, dirs)
	excess := max(before.negatives()-max(negative, 0), 0)
	excess += max(len(before.entries)-excess-max(most, 0), 0)
	gone := prune.Trim(c, most, negative)
	if c.Negatives() > max(negative, 0) || c.Len() > max(most, 0) {
		t.Errorf("Trim(%d, %d): %d entries, %d of them Neg", most, negative, c.Len(), c.Negatives())
	}
	if len(gone) != excess {
		t.Errorf("Trim(%d, %d): %d went, not %d", most, negative, len(gone), excess)
	}
	has(t, "behind Trim", c, left(before.entries, gone)...)
	goneFromBelow(t, before.entries, gone)
	stayWhole(t, c, before, dirs)

	after := modelOf(c, dirs)
	trims(t, "once more", c, most, negative)
	has(t, "once more", c, after.entries...)
	wholes(t, "once more", c, dirs, after.whole...)
}

// goneFromBelow fails if, when a key went, an entry was there below it.
func goneFromBelow(t *testing.T, entries []api.Entry, gone []api.Key) {
	t.Helper()
	for _, k := range gone {
		at := slices.IndexFunc(entries, func(e api.Entry) bool { return e.Key == k })
		if at < 0 {
			t.Fatalf("%v went, and it is not there", k)
		}
		e := entries[at]
		entries = slices.Concat(entries[:at], entries[at+1:])
		for _, other := range entries {
			if !e.Neg && other.Key.Dir == e.Node.ID {
				t.Errorf("%v has gone, and %v stays", e, other)
			}
		}
	}
}

// stayWhole fails if a directory is whole that was not, or one that lacks a name.
func stayWhole(t *testing.T, c *dent.Cache, before *model, dirs []int) {
	t.Helper()
	for _, dir := range dirs {
		var ahead []api.Key
		for _, e := range before.entries {
			if e.Key.Dir == dir && !e.Neg {
				ahead = append(ahead, e.Key)
			}
		}
		if names := c.Names(dir); c.Whole(dir) && (len(names) != len(ahead) || !slices.Contains(before.whole, dir)) {
			t.Errorf("%d is whole with %v, ahead %v (whole: %v)", dir, names, ahead, before.whole)
		}
		// What lost nothing but Neg entries is whole as it was.
		if slices.Contains(before.whole, dir) && len(c.Names(dir)) == len(ahead) && !c.Whole(dir) {
			t.Errorf("%d is not whole any more, and has all its names", dir)
		}
	}
}

// dirsOf are all ids that a tree has had.
func dirsOf(x *tree.Tree) []int {
	var ids []int
	for id := range x.Next() {
		ids = append(ids, id)
	}
	return ids
}

// A cache that learns of a tree, is told what becomes another entry, and is trimmed now and then.
func TestCachesOfTrees(t *testing.T) {
	trimmed, wholeOnes, unset, most := 0, 0, 0, 0
	for seed := range 400 {
		r := rand.New(rand.NewSource(int64(seed)))
		x, c := grown(r, 60), cache()
		for range 40 {
			for range r.Intn(12) {
				learn(r, x, c)
			}
			dirs, many := dirsOf(x), c.Len()
			whole := len(modelOf(c, dirs).whole)
			most = max(most, many)
			follows(t, c, dirs, anyLimit(r, many), anyLimit(r, c.Negatives()))
			trimmed += many - c.Len()
			wholeOnes += trueWholes(t, x, c)
			unset += whole - len(modelOf(c, dirs).whole)
		}
		follows(t, c, dirsOf(x), 0, 0)
		if t.Failed() {
			t.Fatalf("at the seed %d", seed)
		}
	}
	if trimmed < 1000 || wholeOnes < 1000 || unset < 1000 || most < 30 {
		t.Errorf("%d went, %d times whole, %d times not any more, at most %d entries", trimmed, wholeOnes, unset, most)
	}
}

// trueWholes fails if a directory that is whole has not just the names that it has in the tree; it tells how many are whole.
func trueWholes(t *testing.T, x *tree.Tree, c *dent.Cache) int {
	t.Helper()
	count := 0
	for _, dir := range dirsOf(x) {
		entries, errno := x.List(dir)
		if errno != api.OK || !c.Whole(dir) {
			continue
		}
		count++
		if got := c.Names(dir); !slices.Equal(got, entries) {
			t.Errorf("%d is whole with %v, and has %v", dir, got, entries)
		}
	}
	return count
}

// The limits of a client are never passed behind a Trim, however many entries come at once.
func TestLimitsOfAClient(t *testing.T) {
	for seed := range 60 {
		r := rand.New(rand.NewSource(int64(seed)))
		x, c := grown(r, 150), cache()
		most, negative := 1+r.Intn(20), r.Intn(5)
		for range 100 {
			learn(r, x, c)
			follows(t, c, dirsOf(x), most, negative)
			trueWholes(t, x, c)
		}
		if t.Failed() {
			t.Fatalf("at the seed %d", seed)
		}
	}
}

// As in a tree are also entries that no tree has at one time, as long as none hangs on itself: a node in two places, gaps, any numbers above 0.
func TestCachesAsOfTrees(t *testing.T) {
	ids := []int{1, 2, 3, 4, 5, 48, 1 << 32, math.MaxInt - 1, math.MaxInt}
	for seed := range 600 {
		r := rand.New(rand.NewSource(int64(seed)))
		c := cache()
		for range 1 + r.Intn(60) {
			at := r.Intn(len(ids))
			dir, called := ids[at], strconv.Itoa(r.Intn(6))
			switch {
			case r.Intn(4) == 0:
				c.SetWhole(dir)
			// Nothing hangs on what has a lesser ID than its directory, or none.
			case at == len(ids)-1 || r.Intn(4) == 0:
				c.Put(none(dir, called))
			case r.Intn(8) == 0:
				c.Put(file(dir, called, -r.Intn(3)))
			default:
				c.Put(folder(dir, called, ids[at+1+r.Intn(len(ids)-at-1)]))
			}
		}
		for c.Len() > 0 && !t.Failed() {
			follows(t, c, ids, anyLimit(r, c.Len()-1), anyLimit(r, c.Negatives()))
			if r.Intn(4) == 0 {
				follows(t, c, ids, c.Len()-1, math.MaxInt)
			}
		}
		if t.Failed() {
			t.Fatalf("at the seed %d", seed)
		}
	}
}

// Of all caches, rings too, it holds that the Neg ones are few enough, and that a second Trim evicts nothing.
func TestOnceMoreEvictsNothing(t *testing.T) {
	for seed := range 1200 {
		r := rand.New(rand.NewSource(int64(seed)))
		dirs := shapes()[seed%len(shapes())]
		c := madeUp(r, dirs)
		most, negative := anyLimit(r, c.Len()), anyLimit(r, c.Negatives())
		prune.Trim(c, most, negative)
		after := modelOf(c, dirs)
		if after.negatives() > max(negative, 0) {
			t.Errorf("Trim(%d, %d): %d are Neg", most, negative, after.negatives())
		}
		trims(t, "once more", c, most, negative)
		has(t, "once more", c, after.entries...)
		wholes(t, "once more", c, dirs, after.whole...)
		if t.Failed() {
			t.Fatalf("at the seed %d", seed)
		}
	}
}
