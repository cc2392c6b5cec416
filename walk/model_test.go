package walk_test

import (
	"math"
	"math/rand"
	"slices"
	"strings"
	"testing"

	"vista/api"
	"vista/dent"
	"vista/name"
	"vista/walk"
)

// model is a walk as the chapter tells it: a link's target is gone through wholly by itself, ahead of what is left behind the link.
type model struct {
	fresh       []api.Entry
	c           *dent.Cache
	way         []api.Node
	dir, follow bool
	links, met  int
	out         api.Out
}

func (m *model) known(k api.Key) (api.Entry, bool) {
	for _, list := range [][]api.Entry{m.fresh, m.c.Entries()} {
		for _, e := range list {
			if e.Key == k {
				return e, true
			}
		}
	}
	return none(k.Dir, k.Name), m.c.Whole(k.Dir)
}

func (m *model) here() *api.Node {
	return &m.way[len(m.way)-1]
}

// through goes through components, and tells whether the walk goes on behind them; last says that nothing is left behind.
func (m *model) through(steps []string, last bool) bool {
	if len(steps) == 0 {
		return true
	}
	if m.here().Kind != api.KindDir {
		m.out.Err = api.ErrNotDir
		return false
	}
	step, rest := steps[0], steps[1:]
	switch {
	case step == ".":
	case step == ".." && len(m.way) == 1:
	case step == "..":
		m.way = m.way[:len(m.way)-1]
	case !m.named(step, last && len(rest) == 0):
		return false
	}
	return m.through(rest, last)
}

func (m *model) named(step string, last bool) bool {
	k := key(m.here().ID, step)
	e, ok := m.known(k)
	if !ok {
		m.out.Need, m.out.Key = true, k
		return false
	}
	m.out.Used = append(m.out.Used, k)
	if e.Neg {
		m.out.Err = api.ErrNotFound
		return false
	}
	if e.Node.Kind != api.KindLink || last && !m.dir && !m.follow {
		m.way = append(slices.Clone(m.way), e.Node)
		return true
	}
	return m.linked(e.Node.Target, last)
}

func (m *model) linked(target string, last bool) bool {
	m.met++
	if m.met > m.links {
		m.out.Err = api.ErrLoop
		return false
	}
	ahead, whole, dir, e := name.Target(target)
	if e != api.OK {
		m.out.Err = e
		return false
	}
	if whole {
		m.way = m.way[:1]
	}
	m.dir = m.dir || last && dir
	return m.through(ahead, last)
}

// modelled is what a walk must come to, and how many links it meets.
func modelled(c *dent.Cache, fresh []api.Entry, steps []string, dir, follow bool, links int) (api.Out, int) {
	m := &model{fresh: fresh, c: c, way: []api.Node{root()}, dir: dir, follow: follow, links: links}
	if links < 0 {
		m.links = 0
	}
	if links > api.MaxLinks {
		m.links = api.MaxLinks
	}
	if m.through(steps, true) {
		if m.dir && m.here().Kind != api.KindDir {
			m.out.Err = api.ErrNotDir
		} else {
			m.out.Node = *m.here()
		}
	}
	return m.out, m.met
}

// modelledPath is what a walk of a raw path must come to.
func modelledPath(c *dent.Cache, fresh []api.Entry, path string, follow bool, links int) api.Out {
	steps, dir, e := name.Split(path)
	if e != api.OK {
		return fails(e)
	}
	out, _ := modelled(c, fresh, steps, dir, follow, links)
	return out
}

// shortPaths are all paths of up to three components of these.
func shortPaths(parts ...string) []string {
	paths, longest := []string{"/"}, []string{""}
	for range 3 {
		var longer []string
		for _, path := range longest {
			for _, part := range parts {
				longer = append(longer, path+"/"+part)
			}
		}
		for _, path := range longer {
			paths = append(paths, path, path+"/")
		}
		longest = longer
	}
	return paths
}

// All that three keys may be, and all short paths through them.
func TestAllSmallCaches(t *testing.T) {
	nodes := []api.Node{
		{ID: 1, Kind: api.KindDir, Mode: 9}, {ID: 2, Kind: api.KindDir, Mode: 5}, {ID: 3, Kind: api.KindFile},
		{ID: 4, Kind: api.KindLink, Target: "b"}, {ID: 5, Kind: api.KindLink, Target: "/a/"}, {ID: 6, Kind: api.KindLink, Target: "../a"},
		{ID: 7, Kind: api.KindLink, Target: ".."}, {ID: 8, Kind: api.KindLink, Target: "/"}, {ID: 9, Kind: api.KindLink, Target: "a/b"}, {ID: 10, Kind: api.KindLink},
	}
	keys := []api.Key{key(1, "a"), key(1, "b"), key(2, "a")}
	paths := shortPaths("a", "b", ".", "..")
	// Beside the nodes: nothing is known, or that it is nothing.
	kinds := len(nodes) + 2
	for script := range kinds * kinds * kinds {
		c := dent.New()
		rest := script
		for _, k := range keys {
			if kind := rest % kinds; kind < len(nodes) {
				c.Put(api.Entry{Key: k, Node: nodes[kind]})
			} else if kind == len(nodes) {
				c.Put(api.Entry{Key: k, Neg: true})
			}
			rest /= kinds
		}
		for at, path := range paths {
			// The limits are taken in turn: each path has each of them in many caches.
			links := (at + script) % 5
			for _, follow := range []bool{false, true} {
				comes(t, path, walk.Walk(c, nil, path, follow, links), modelledPath(c, nil, path, follow, links))
			}
		}
		if t.Failed() {
			t.Fatalf("at the script %d: %v", script, c.Entries())
		}
	}
}

// anyNamed is a made-up component, most often one of few.
func anyNamed(r *rand.Rand) string {
	if r.Intn(60) == 0 {
		return []string{"\xff", "a name too long", "...", "x\x00"}[r.Intn(4)]
	}
	return []string{"a", "a", "b", "b", "c", ".", "..", ".."}[r.Intn(8)]
}

// anyPath is a made-up path, or a target, of up to so many components.
func anyPath(r *rand.Rand, most int) string {
	path := ""
	for range r.Intn(most + 1) {
		path += anyNamed(r) + []string{"/", "/", "/", "//"}[r.Intn(4)]
	}
	if r.Intn(4) > 0 {
		path = strings.TrimRight(path, "/")
	}
	return path
}

// anyNode is a made-up node; those that a walk goes on through come most often.
func anyNode(r *rand.Rand, dirs []int) api.Node {
	n := api.Node{ID: dirs[r.Intn(len(dirs))], Mode: r.Intn(3)}
	switch r.Intn(10) {
	case 0, 1, 2, 3, 4:
		n.Kind = api.KindDir
	case 5:
		n.Kind = []int{api.KindFile, api.KindFile, 0, 4, -3}[r.Intn(5)]
		n.Target = []string{"", "/a"}[r.Intn(2)]
	default:
		n.Kind, n.Target = api.KindLink, anyPath(r, 4)
		if r.Intn(3) == 0 {
			n.Target = "/" + n.Target
		}
	}
	return n
}

// anyEntries are made-up entries of made-up keys.
func anyEntries(r *rand.Rand, dirs []int, count int) []api.Entry {
	var entries []api.Entry
	for range count {
		e := api.Entry{Key: key(dirs[r.Intn(len(dirs))], []string{"a", "b", "c", "a", "b", "", ".", "..", "\xff", "..."}[r.Intn(10)])}
		e.Neg = r.Intn(9) == 0
		if !e.Neg || r.Intn(4) == 0 {
			e.Node = anyNode(r, dirs)
		}
		entries = append(entries, e)
	}
	return entries
}

// anyLinks is a made-up limit of the links that are met.
func anyLinks(r *rand.Rand) int {
	if r.Intn(4) == 0 {
		return []int{math.MinInt, -1, 0, 1, api.MaxLinks + 1, math.MaxInt}[r.Intn(6)]
	}
	return r.Intn(api.MaxLinks + 1)
}

// shapes are lists of directories: few, so that most is known, and many.
func shapes() [][]int {
	return [][]int{{1}, {1, 2}, {1, 2, 3}, {1, 1, 2, 2, 3, 4, 5, 6}, {1, math.MinInt, -1, 0, math.MaxInt}}
}

// madeUp is a made-up cache with fresh entries.
func madeUp(r *rand.Rand, dirs []int) (*dent.Cache, []api.Entry) {
	c := cache(anyEntries(r, dirs, r.Intn(6*len(dirs)))...)
	for _, dir := range dirs {
		if r.Intn(4) == 0 {
			c.SetWhole(dir)
		}
	}
	var fresh []api.Entry
	if r.Intn(2) == 0 {
		fresh = anyEntries(r, dirs, r.Intn(8))
	}
	return c, fresh
}

// anySteps are made-up components, most often names.
func anySteps(r *rand.Rand) []string {
	var steps []string
	for range r.Intn(9) {
		step := anyNamed(r)
		if r.Intn(40) == 0 {
			step = []string{"", "/", "a/b"}[r.Intn(3)]
		}
		steps = append(steps, step)
	}
	return steps
}

func TestManyWalks(t *testing.T) {
	came := map[api.Errno]int{}
	wanted, met := 0, 0
	for seed := range 12000 {
		r := rand.New(rand.NewSource(int64(seed)))
		c, fresh := madeUp(r, shapes()[seed%len(shapes())])
		for range 12 {
			path, follow, links := "/"+anyPath(r, 8), r.Intn(2) == 0, anyLinks(r)
			comes(t, path, walk.Walk(c, fresh, path, follow, links), modelledPath(c, fresh, path, follow, links))
			steps, dir := anySteps(r), r.Intn(3) == 0
			want, through := modelled(c, fresh, steps, dir, follow, links)
			comes(t, strings.Join(steps, " / "), walk.Steps(c, fresh, steps, dir, follow, links), want)
			came[want.Err]++
			met += through
			if want.Need {
				wanted++
			}
		}
		if t.Failed() {
			t.Fatalf("at the seed %d: %v, fresh %v", seed, c.Entries(), fresh)
		}
	}
	for _, e := range []api.Errno{api.OK, api.ErrNotFound, api.ErrNotDir, api.ErrLoop, api.ErrPath, api.ErrNameTooLong} {
		if came[e] < 100 {
			t.Errorf("%d walks came to %v", came[e], e)
		}
	}
	if wanted < 10000 || met < 10000 || came[api.OK]-wanted < 10000 {
		t.Errorf("%d walks wanted a key, %d links were met, %d walks came to a node", wanted, met, came[api.OK]-wanted)
	}
}

// R4

// The same walk comes to the same, whatever was walked ahead; a cache of the same entries, put in another order, is as good.
func TestTheSameAgain(t *testing.T) {
	for seed := range 300 {
		r := rand.New(rand.NewSource(int64(seed)))
		dirs := shapes()[seed%len(shapes())]
		c, fresh := madeUp(r, dirs)
		other := dent.New()
		for _, e := range slices.Backward(c.Entries()) {
			other.Put(e)
		}
		for _, dir := range dirs {
			if c.Whole(dir) {
				other.SetWhole(dir)
			}
		}
		var paths []string
		var first []api.Out
		for range 10 {
			paths = append(paths, "/"+anyPath(r, 6))
		}
		for _, path := range paths {
			first = append(first, walk.Walk(c, fresh, path, true, 5))
		}
		for at, path := range slices.Backward(paths) {
			comes(t, path, walk.Walk(c, fresh, path, true, 5), first[at])
			comes(t, path, walk.Walk(other, fresh, path, true, 5), first[at])
		}
	}
}

// Nor do two caches have anything in common.
func TestWalksHaveNothingInCommon(t *testing.T) {
	one, other := cache(folder(1, "a", 2)), cache(file(1, "a", 3))
	for range 2 {
		all(t, one, nil, walked{"/a", true, 3, finds(folder(1, "a", 2).Node, key(1, "a"))})
		all(t, other, nil, walked{"/a", true, 3, finds(file(1, "a", 3).Node, key(1, "a"))})
		all(t, one, []api.Entry{none(1, "a")}, walked{"/a", true, 3, fails(api.ErrNotFound, key(1, "a"))})
		all(t, cache(), nil, walked{"/a", true, 3, needs(key(1, "a"))})
	}
}
