package dent_test

import (
	"math"
	"math/rand"
	"slices"
	"strconv"
	"testing"

	"vista/api"
	"vista/dent"
	"vista/tree"
)

// P12.4

// anyName is a made-up name, one of few, so that it is often one that is there.
func anyName(r *rand.Rand) string {
	return []string{"a", "b", "B", "c", "\xff"}[r.Intn(5)]
}

// anyDir is the id of some directory of a tree.
func anyDir(r *rand.Rand, x *tree.Tree) int {
	ids := []int{api.Root}
	for _, e := range x.Dump() {
		if e.Node.Kind == api.KindDir {
			ids = append(ids, e.Node.ID)
		}
	}
	return ids[r.Intn(len(ids))]
}

// anyOp is a made-up mutation of a tree; those that make something come most often.
func anyOp(r *rand.Rand, x *tree.Tree) api.Op {
	op := api.Op{Dir: anyDir(r, x), Name: anyName(r)}
	switch r.Intn(9) {
	case 0, 1, 2:
		op.Kind, op.Mode = api.OpMkdir, r.Intn(api.MaxMode+1)
	case 3:
		op.Kind, op.Mode = api.OpCreate, r.Intn(api.MaxMode+1)
	case 4:
		op.Kind, op.Target = api.OpSymlink, "../"+anyName(r)
	case 5:
		op.Kind, op.To, op.New = api.OpRename, anyDir(r, x), anyName(r)
	case 6:
		op.Kind, op.Mode = api.OpSetattr, r.Intn(api.MaxMode+1)
	case 7:
		op.Kind = api.OpUnlink
	case 8:
		op.Kind = api.OpRmdir
	}
	return op
}

// grown is a tree behind made-up mutations.
func grown(r *rand.Rand, mutations int) *tree.Tree {
	x := tree.New()
	for range mutations {
		x.Apply(anyOp(r, x))
	}
	return x
}

// leafKeys are the keys of the leaves, in the order of use.
func leafKeys(c *dent.Cache) []api.Key {
	var found []api.Key
	for _, e := range c.Entries() {
		if c.Leaf(e.Key) {
			found = append(found, e.Key)
		}
	}
	return found
}

// strip evicts leaf by leaf, and fails if entries are left of which none is a leaf, or if one goes below which one stays.
func strip(t *testing.T, r *rand.Rand, c *dent.Cache) {
	t.Helper()
	for left := c.Len(); left > 0; left-- {
		found := leafKeys(c)
		if len(found) == 0 {
			t.Fatalf("%d entries, and none is a leaf: %v", left, c.Entries())
		}
		k := found[r.Intn(len(found))]
		e, _ := c.Get(k)
		if !c.Evict(k) || c.Len() != left-1 {
			t.Fatalf("Evict(%v), a leaf of %d entries, leaves %d", k, left, c.Len())
		}
		for _, other := range c.Entries() {
			if !e.Neg && other.Key.Dir == e.Node.ID {
				t.Fatalf("%v has gone, and %v stays", e, other)
			}
		}
	}
	has(t, "stripped", c)
	if c.Negatives() != 0 {
		t.Errorf("%d entries are Neg, and none is there", c.Negatives())
	}
}

// Caches of all of a tree, and of parts of it, with names that are not there.
func TestCachesOfTreesHaveLeaves(t *testing.T) {
	deepest, most := 0, 0
	for seed := range 400 {
		r := rand.New(rand.NewSource(int64(seed)))
		x := grown(r, r.Intn(120))
		entries := x.Dump()
		if seed%2 == 0 {
			entries = slices.DeleteFunc(entries, func(api.Entry) bool { return r.Intn(3) == 0 })
		}
		for range r.Intn(10) {
			if e, _ := x.Look(anyDir(r, x), anyName(r)); e.Neg {
				entries = append(entries, e)
			}
		}
		r.Shuffle(len(entries), func(i, j int) { entries[i], entries[j] = entries[j], entries[i] })
		c := cache(t, entries...)
		for range r.Intn(20) {
			c.Use(key(anyDir(r, x), anyName(r)))
		}
		for _, e := range entries {
			deepest = max(deepest, depth(x, e.Key.Dir))
		}
		most = max(most, c.Len())
		strip(t, r, c)
		if t.Failed() {
			t.Fatalf("at the seed %d", seed)
		}
	}
	if deepest < 4 || most < 30 {
		t.Errorf("the trees are poor: at most %d deep, %d entries", deepest, most)
	}
}

// depth is how many directories lie above one.
func depth(x *tree.Tree, dir int) int {
	steps := 0
	for dir != api.Root {
		e, _ := x.Find(dir)
		dir = e.Key.Dir
		steps++
	}
	return steps
}

// As in a tree are also entries that no tree has at one time, as long as none hangs on itself: a node in two places, gaps, any numbers above 0.
func TestCachesAsOfTreesHaveLeaves(t *testing.T) {
	for seed := range 400 {
		r := rand.New(rand.NewSource(int64(seed)))
		ids := []int{1, 2, 3, 4, 5, 48, 1 << 32, math.MaxInt - 1, math.MaxInt}
		c := cache(t)
		for range 1 + r.Intn(40) {
			at := r.Intn(len(ids))
			k := key(ids[at], strconv.Itoa(r.Intn(6)))
			switch {
			// Nothing hangs on what has a lesser ID than its directory, or none.
			case at == len(ids)-1 || r.Intn(4) == 0:
				puts(t, c, none(k.Dir, k.Name))
			case r.Intn(8) == 0:
				puts(t, c, file(k.Dir, k.Name, -r.Intn(3)))
			default:
				puts(t, c, folder(k.Dir, k.Name, ids[at+1+r.Intn(len(ids)-at-1)]))
			}
		}
		strip(t, r, c)
		if t.Failed() {
			t.Fatalf("at the seed %d", seed)
		}
	}
}

// Of a chain only the last one is a leaf, whatever order it was put and used in.
func TestChainsGoFromTheirEnd(t *testing.T) {
	const links = 60
	for seed := range 10 {
		r := rand.New(rand.NewSource(int64(seed)))
		c := cache(t)
		for _, i := range r.Perm(links) {
			puts(t, c, folder(1+i, "x", 2+i))
		}
		for i := links; i > 0; i-- {
			if got := leafKeys(c); !slices.Equal(got, []api.Key{key(i, "x")}) {
				t.Fatalf("%d entries: leaves %v", i, got)
			}
			c.Evict(key(i, "x"))
		}
		has(t, "a chain", c)
	}
}

// since is what happened to a directory since it was set whole.
type since struct {
	set, cut, evicted bool
}

// A directory is whole just if it was set, and since then neither cut nor one of its names evicted.
func TestWholeBehindScripts(t *testing.T) {
	reached := map[since]int{}
	for seed := range 500 {
		r := rand.New(rand.NewSource(int64(seed)))
		c, past := cache(t), make([]since, 4)
		for range 80 {
			dir := r.Intn(len(past))
			k := key(dir, anyName(r))
			switch r.Intn(8) {
			case 0:
				c.SetWhole(dir)
				past[dir] = since{set: true}
			case 1:
				if r.Intn(2) == 0 {
					k.Name = ""
				}
				c.Cut([]api.Key{k})
				past[dir].cut = true
			case 2, 3:
				e, there := c.Get(k)
				c.Evict(k)
				past[dir].evicted = past[dir].evicted || there && !e.Neg
			case 4:
				if r.Intn(10) == 0 {
					c.Clear()
					clear(past)
				}
				c.Use(k)
			default:
				puts(t, c, anyEntry(r, k, dirs))
			}
			for i, p := range past {
				reached[p]++
				if want := p == (since{set: true}); c.Whole(i) != want {
					t.Fatalf("at the seed %d: Whole(%d): %v, behind %v", seed, i, c.Whole(i), p)
				}
			}
		}
	}
	if len(reached) != 8 {
		t.Errorf("only %v was reached", reached)
	}
}

// A cache that learns of a tree, and is told what becomes another entry, has all names of the directories that are whole in it, and nothing that is not so.
func TestWholeDirectoriesAreTrue(t *testing.T) {
	wholeOnes, parts := 0, 0
	for seed := range 300 {
		r := rand.New(rand.NewSource(int64(seed)))
		x, c := grown(r, 30), cache(t)
		for range 120 {
			learnOrForget(r, x, c)
			for id := api.Root; id < x.Next(); id++ {
				entries, _ := x.List(id)
				if c.Whole(id) {
					names(t, c, id, entries...)
					wholeOnes++
				} else if len(c.Names(id)) < len(entries) {
					parts++
				}
			}
			for _, e := range c.Entries() {
				if now, errno := x.Look(e.Key.Dir, e.Key.Name); errno == api.OK && now != e {
					t.Errorf("%v is cached, and it is %v", e, now)
				}
			}
			if t.Failed() {
				t.Fatalf("at the seed %d", seed)
			}
		}
		strip(t, r, c)
	}
	if wholeOnes < 1000 || parts < 1000 {
		t.Errorf("%d times whole, %d times not", wholeOnes, parts)
	}
}

// learnOrForget does to a cache one of the things that a client does, with what is so in a tree; or it mutates the tree, and cuts.
func learnOrForget(r *rand.Rand, x *tree.Tree, c *dent.Cache) {
	dir := anyDir(r, x)
	switch r.Intn(8) {
	case 0, 1, 2:
		e, _ := x.Look(dir, anyName(r))
		c.Put(e)
	case 3, 4:
		entries, _ := x.List(dir)
		for _, e := range entries {
			c.Put(e)
		}
		c.SetWhole(dir)
	case 5:
		if found := leafKeys(c); len(found) > 0 {
			c.Evict(found[r.Intn(len(found))])
		}
	case 6:
		c.Use(key(dir, anyName(r)))
	case 7:
		_, keys, _ := x.Apply(anyOp(r, x))
		c.Cut(keys)
	}
}
