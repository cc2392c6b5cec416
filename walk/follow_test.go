package walk_test

import (
	"math/rand"
	"slices"
	"strings"
	"testing"

	"vista/api"
	"vista/dent"
	"vista/name"
	"vista/tree"
	"vista/walk"
)

// P14.3

// told is what a source of all entries says of a key.
type told func(k api.Key) api.Entry

// isLink tells whether an entry is that of a link.
func isLink(e api.Entry) bool {
	return !e.Neg && e.Node.Kind == api.KindLink
}

// learn walks, each time with the key that is wanted made known, in the cache or as a fresh entry, till nothing is wanted; it tells what each walk came to.
func learn(t *testing.T, r *rand.Rand, truth told, path string, follow bool, links int) []api.Out {
	t.Helper()
	c := dent.New()
	var fresh []api.Entry
	var outs []api.Out
	for {
		out := walk.Walk(c, fresh, path, follow, links)
		outs = append(outs, out)
		if !out.Need {
			return outs
		}
		if slices.Contains(out.Used, out.Key) || len(outs) > 1000 {
			t.Fatalf("%q: %v is wanted, which was used: %v", path, out.Key, out.Used)
		}
		if e := truth(out.Key); r.Intn(2) == 0 {
			c.Put(e)
		} else if fresh = append(fresh, e); e.Neg && r.Intn(2) == 0 && !hasNames(truth, e.Key.Dir) {
			fresh = fresh[:len(fresh)-1]
			c.SetWhole(e.Key.Dir)
		}
	}
}

// hasNames tells whether a directory has any name of those that are walked, so that it can't be said to be whole.
func hasNames(truth told, dir int) bool {
	for _, called := range []string{"a", "b", "c", "\xff", "..."} {
		if !truth(key(dir, called)).Neg {
			return true
		}
	}
	return false
}

// follows fails if not all that the chapter says follows holds of walks that learn.
func follows(t *testing.T, r *rand.Rand, truth told, path string, follow bool, links int) (last api.Out, wants int) {
	t.Helper()
	outs := learn(t, r, truth, path, follow, links)
	last = outs[len(outs)-1]
	var wanted []api.Key
	for _, out := range outs[:len(outs)-1] {
		if out.Err != api.OK || out.Node != (api.Node{}) || slices.Contains(wanted, out.Key) {
			t.Errorf("%q: %+v, and %v were wanted ahead", path, out, wanted)
		}
		wanted = append(wanted, out.Key)
		// What is known does not turn: the next walk goes the same way, and uses what was wanted next.
		if count := len(out.Used); len(last.Used) <= count || !slices.Equal(append(slices.Clone(out.Used), out.Key), last.Used[:count+1]) {
			t.Errorf("%q: %v were used and %v was wanted, and then %v were used", path, out.Used, out.Key, last.Used)
		}
	}
	met := 0
	for _, k := range last.Used {
		if isLink(truth(k)) {
			met++
		}
		if !slices.Contains(wanted, k) {
			t.Errorf("%q: %v was used, and never wanted", path, k)
		}
	}
	// A link at which a walk stands is used, and not met.
	if last.Node.Kind == api.KindLink {
		met--
	}
	if most := min(max(links, 0), api.MaxLinks) + 1; met > most || met == most && last.Err != api.ErrLoop {
		t.Errorf("%q: %d links met, and %v; links are %d", path, met, last.Err, links)
	}
	return last, len(wanted)
}

// anyTruth is a made-up source that tells of each key always the same.
func anyTruth(seed int64, dirs []int) told {
	entries := map[api.Key]api.Entry{}
	r := rand.New(rand.NewSource(seed))
	for range 3 {
		for _, e := range anyEntries(r, dirs, 6*len(dirs)) {
			entries[e.Key] = e
		}
	}
	return func(k api.Key) api.Entry {
		if e, ok := entries[k]; ok {
			return e
		}
		return none(k.Dir, k.Name)
	}
}

// A walk is asked again, with the wanted key made known, till nothing is wanted: it comes to what it comes to where all is known.
func TestLearningWalks(t *testing.T) {
	came, wants := map[api.Errno]int{}, 0
	for seed := range 4000 {
		r := rand.New(rand.NewSource(int64(seed)))
		dirs := shapes()[seed%len(shapes())]
		truth := anyTruth(int64(seed), dirs)
		var known []api.Entry
		for _, dir := range dirs {
			for _, called := range []string{"a", "b", "c", "\xff", "..."} {
				known = append(known, truth(key(dir, called)))
			}
		}
		for range 4 {
			path, follow, links := "/"+anyPath(r, 8), r.Intn(2) == 0, anyLinks(r)
			last, count := follows(t, r, truth, path, follow, links)
			came[last.Err]++
			wants += count
			comes(t, path, walk.Walk(set(cache(known...), dirs...), nil, path, follow, links), last)
			comes(t, path, walk.Walk(set(dent.New(), dirs...), known, path, follow, links), last)
		}
		if t.Failed() {
			t.Fatalf("at the seed %d", seed)
		}
	}
	for _, e := range []api.Errno{api.OK, api.ErrNotFound, api.ErrNotDir, api.ErrLoop, api.ErrPath} {
		if came[e] < 100 {
			t.Errorf("%d walks came to %v", came[e], e)
		}
	}
	if wants < 10000 {
		t.Errorf("%d keys were wanted", wants)
	}
}

// anyDir is the id of some directory of a tree.
func anyDir(r *rand.Rand, x *tree.Tree) int {
	ids := []int{api.Root}
	for _, e := range x.Dump() {
		if e.Node.Kind == api.KindDir {
			ids = append(ids, e.Node.ID)
		}
	}
	return ids[r.Intn(len(ids))]
}

// grown is a tree behind made-up mutations, with many links.
func grown(r *rand.Rand, mutations int) *tree.Tree {
	x := tree.New()
	for range mutations {
		op := api.Op{Dir: anyDir(r, x), Name: []string{"a", "b", "c", "\xff"}[r.Intn(4)]}
		switch r.Intn(8) {
		case 0, 1, 2:
			op.Kind, op.Mode = api.OpMkdir, r.Intn(api.MaxMode+1)
		case 3:
			op.Kind, op.Mode = api.OpCreate, r.Intn(api.MaxMode+1)
		case 4, 5:
			op.Kind, op.Target = api.OpSymlink, anyPath(r, 3)
			if r.Intn(2) == 0 {
				op.Target = "/" + op.Target
			}
		case 6:
			op.Kind = api.OpUnlink
		case 7:
			op.Kind, op.To, op.New = api.OpRename, anyDir(r, x), []string{"a", "b", "c", "\xff"}[r.Intn(4)]
		}
		x.Apply(op)
	}
	return x
}

// resolved is where components lead to in a tree: `..` is the directory that the tree says a directory is in.
func resolved(x *tree.Tree, at api.Node, steps []string, dir, follow bool, left int) (api.Node, api.Errno) {
	if len(steps) == 0 {
		if dir && at.Kind != api.KindDir {
			return api.Node{}, api.ErrNotDir
		}
		return at, api.OK
	}
	if at.Kind != api.KindDir {
		return api.Node{}, api.ErrNotDir
	}
	step, rest := steps[0], steps[1:]
	if step == "." {
		return resolved(x, at, rest, dir, follow, left)
	}
	if step == ".." {
		return resolved(x, above(x, at), rest, dir, follow, left)
	}
	e, _ := x.Look(at.ID, step)
	if e.Neg {
		return api.Node{}, api.ErrNotFound
	}
	if e.Node.Kind != api.KindLink || len(rest) == 0 && !dir && !follow {
		return resolved(x, e.Node, rest, dir, follow, left)
	}
	if left == 0 {
		return api.Node{}, api.ErrLoop
	}
	ahead, whole, must, err := name.Target(e.Node.Target)
	if err != api.OK {
		return api.Node{}, err
	}
	if whole {
		at = root()
	}
	return resolved(x, at, slices.Concat(ahead, rest), dir || len(rest) == 0 && must, follow, left-1)
}

// above is the directory that a directory is in.
func above(x *tree.Tree, at api.Node) api.Node {
	if at.ID == api.Root {
		return root()
	}
	e, _ := x.Find(at.ID)
	if e.Key.Dir == api.Root {
		return root()
	}
	e, _ = x.Find(e.Key.Dir)
	return e.Node
}

// A walk that learns of a tree comes to where the path leads in that tree.
func TestWalksThroughTrees(t *testing.T) {
	found, met := 0, 0
	for seed := range 1200 {
		r := rand.New(rand.NewSource(int64(seed)))
		x := grown(r, 60)
		truth := func(k api.Key) api.Entry {
			e, err := x.Look(k.Dir, k.Name)
			if err != api.OK {
				t.Fatalf("%v is wanted, which no tree can tell: %v", k, err)
			}
			return e
		}
		for range 12 {
			path, follow, links := "/"+anyPath(r, 8), r.Intn(2) == 0, r.Intn(api.MaxLinks+1)
			steps, dir, e := name.Split(path)
			if e != api.OK {
				continue
			}
			last, _ := follows(t, r, truth, path, follow, links)
			n, err := resolved(x, root(), steps, dir, follow, links)
			if last.Node != n || last.Err != err {
				t.Errorf("%q: %+v, and in the tree %v, %v", path, last, n, err)
			}
			if last.Err == api.OK && n != root() {
				found++
			}
			for _, k := range last.Used {
				if isLink(truth(k)) {
					met++
				}
			}
		}
		if t.Failed() {
			t.Fatalf("at the seed %d: %v", seed, x.Dump())
		}
	}
	if found < 1000 || met < 1000 {
		t.Errorf("%d nodes were found, %d links used", found, met)
	}
}

// Entries of keys that a walk neither used nor wanted turn nothing, whoever tells of them; nor does it matter who tells of those that it used.
func TestOthersTurnNothing(t *testing.T) {
	for seed := range 4000 {
		r := rand.New(rand.NewSource(int64(seed)))
		dirs := shapes()[seed%len(shapes())]
		c, fresh := madeUp(r, dirs)
		steps, dir, follow, links := anySteps(r), r.Intn(2) == 0, r.Intn(2) == 0, anyLinks(r)
		m := &model{fresh: fresh, c: c}
		out := walk.Steps(c, fresh, steps, dir, follow, links)

		other := dent.New()
		var others []api.Entry
		for _, k := range out.Used {
			e, ok := m.known(k)
			// The cache takes no empty names.
			if !ok || k.Name == "" || r.Intn(2) == 0 {
				others = append(others, e)
			} else {
				other.Put(e)
			}
		}
		comes(t, "nothing else", walk.Steps(other, others, steps, dir, follow, links), out)
		for _, e := range anyEntries(r, dirs, 20) {
			if e.Key == out.Key && out.Need || slices.Contains(out.Used, e.Key) {
				continue
			}
			if r.Intn(2) == 0 {
				others = append(others, e)
			} else {
				other.Put(e)
			}
		}
		for _, d := range dirs {
			if !out.Need || d != out.Key.Dir {
				other.SetWhole(d)
			}
		}
		comes(t, "others", walk.Steps(other, others, steps, dir, follow, links), out)
		if t.Failed() {
			t.Fatalf("at the seed %d: %v", seed, steps)
		}
	}
}

// If nothing but `.` and `..` is left, nothing is wanted: at the root, behind a directory, behind a link, behind a file.
func TestDotsWantNothing(t *testing.T) {
	r := rand.New(rand.NewSource(14))
	c := cache(folder(1, "d", 2), folder(2, "d", 3), file(1, "f", 4), link(1, "l", 5, "/d/d/.."))
	for range 3000 {
		var dots []string
		for range r.Intn(12) {
			dots = append(dots, []string{".", ".."}[r.Intn(2)])
		}
		behind := "/" + strings.Join(dots, "/")
		comes(t, behind, walk.Walk(dent.New(), nil, behind, r.Intn(2) == 0, r.Intn(9)), finds(root()))
		for _, ahead := range []string{"/d", "/d/d", "/f", "/l", "/d/d/../d", "/l/d"} {
			if out := walk.Walk(c, nil, ahead+behind, r.Intn(2) == 0, 1); out.Need || out.Key != (api.Key{}) {
				t.Errorf("%q wants %v", ahead+behind, out.Key)
			}
		}
	}
}
