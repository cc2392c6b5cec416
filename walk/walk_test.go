package walk_test

import (
	"slices"
	"strings"
	"testing"

	"vista/api"
	"vista/dent"
	"vista/walk"
)

func key(dir int, name string) api.Key {
	return api.Key{Dir: dir, Name: name}
}

// folder, file and link are entries of such a node.
func folder(dir int, name string, id int) api.Entry {
	return api.Entry{Key: key(dir, name), Node: api.Node{ID: id, Kind: api.KindDir, Mode: 7}}
}

func file(dir int, name string, id int) api.Entry {
	return api.Entry{Key: key(dir, name), Node: api.Node{ID: id, Kind: api.KindFile, Mode: 3}}
}

func link(dir int, name string, id int, target string) api.Entry {
	return api.Entry{Key: key(dir, name), Node: api.Node{ID: id, Kind: api.KindLink, Target: target}}
}

// none is the entry of a name that is nothing.
func none(dir int, name string) api.Entry {
	return api.Entry{Key: key(dir, name), Neg: true}
}

// root is the node where a walk begins.
func root() api.Node {
	return api.Node{ID: api.Root, Kind: api.KindDir}
}

// cache is a new cache into which entries were put, one by one.
func cache(entries ...api.Entry) *dent.Cache {
	c := dent.New()
	for _, e := range entries {
		c.Put(e)
	}
	return c
}

// set makes directories whole in a cache.
func set(c *dent.Cache, dirs ...int) *dent.Cache {
	for _, dir := range dirs {
		c.SetWhole(dir)
	}
	return c
}

// finds, fails and needs are what a walk comes to that used these keys.
func finds(n api.Node, used ...api.Key) api.Out {
	return api.Out{Node: n, Used: used}
}

func fails(e api.Errno, used ...api.Key) api.Out {
	return api.Out{Err: e, Used: used}
}

func needs(wanted api.Key, used ...api.Key) api.Out {
	return api.Out{Need: true, Key: wanted, Used: used}
}

// same tells whether two walks came to the same; no list and an empty one are one.
func same(a, b api.Out) bool {
	return a.Need == b.Need && a.Key == b.Key && a.Err == b.Err && a.Node == b.Node && slices.Equal(a.Used, b.Used)
}

// comes fails if a walk did not come to just this.
func comes(t *testing.T, what string, got, want api.Out) {
	t.Helper()
	if !same(got, want) {
		t.Errorf("%s: %+v, not %+v", what, got, want)
	}
}

// times is a key so many times.
func times(k api.Key, count int) []api.Key {
	return slices.Repeat([]api.Key{k}, count)
}

// walked is a path, how it is walked, and what that comes to.
type walked struct {
	path   string
	follow bool
	links  int
	want   api.Out
}

// all walks one path after the other.
func all(t *testing.T, c *dent.Cache, fresh []api.Entry, walks ...walked) {
	t.Helper()
	for _, w := range walks {
		comes(t, w.path, walk.Walk(c, fresh, w.path, w.follow, w.links), w.want)
	}
}

// both walks one path after the other, followed and not, which is to come to the same.
func both(t *testing.T, c *dent.Cache, fresh []api.Entry, walks ...walked) {
	t.Helper()
	for _, w := range walks {
		for _, follow := range []bool{false, true} {
			comes(t, w.path, walk.Walk(c, fresh, w.path, follow, w.links), w.want)
		}
	}
}

// example is what the chapter's examples know.
func example() []api.Entry {
	return []api.Entry{folder(1, "a", 2), link(2, "l", 4, "../b/"), file(1, "b", 3)}
}

// The chapter's examples, with all that is known in the cache, and with all of it fresh.
func TestExamples(t *testing.T) {
	a, l, b, m := key(1, "a"), key(2, "l"), key(1, "b"), key(1, "m")
	known := append(example(), link(1, "m", 5, "m"))
	walks := []walked{
		{"/a/l", true, 3, fails(api.ErrNotDir, a, l, b)},
		{"/a/l", false, 3, finds(link(2, "l", 4, "../b/").Node, a, l)},
		{"/a/l/", false, 3, fails(api.ErrNotDir, a, l, b)},
		{"/b/.", true, 3, fails(api.ErrNotDir, b)},
		{"/b/.", false, 3, fails(api.ErrNotDir, b)},
		{"/x", true, 3, needs(key(1, "x"))},
		{"/x", false, 3, needs(key(1, "x"))},
		{"/m", true, 3, fails(api.ErrLoop, m, m, m, m)},
		{"//..///", true, 3, finds(root())},
		{"//..///", false, 3, finds(root())},
	}
	all(t, cache(known...), nil, walks...)
	all(t, cache(), known, walks...)
}

// P14.1

// A path that Split refuses comes to its error, whatever is known.
func TestWalkOfNoPath(t *testing.T) {
	long := "/" + strings.Repeat("a", api.MaxName+1)
	longer := strings.Repeat("/a", api.MaxPath/2) + "/"
	c := set(cache(folder(1, "a", 1), file(1, long[1:], 3), file(1, "\x00", 4)), 1)
	both(t, c, []api.Entry{file(1, "b", 5)},
		walked{"", false, 3, fails(api.ErrPath)},
		walked{"a", false, 3, fails(api.ErrPath)},
		walked{"b/", false, 3, fails(api.ErrPath)},
		walked{"../b", false, 3, fails(api.ErrPath)},
		walked{"/\x00", false, 3, fails(api.ErrPath)},
		walked{"/x/y\x00", false, 3, fails(api.ErrPath)},
		walked{long, false, 3, fails(api.ErrNameTooLong)},
		// What is wrong behind is told ahead of what comes first on the way.
		walked{"/x" + long, false, 3, fails(api.ErrNameTooLong)},
		walked{longer, false, 3, fails(api.ErrPathTooLong)},
		walked{strings.Repeat("/", api.MaxPath+1), false, 3, fails(api.ErrPathTooLong)},
	)
	both(t, c, nil,
		walked{strings.Repeat("/", api.MaxPath), false, 3, finds(root())},
		walked{longer[1:], false, 3, fails(api.ErrPath)},
		walked{longer[:api.MaxPath], false, 3, finds(folder(1, "a", 1).Node, times(key(1, "a"), api.MaxPath/2)...)},
		walked{long[:api.MaxName+1], false, 3, fails(api.ErrNotFound, key(1, long[1:api.MaxName+1]))},
	)
}

// Walk is Steps of what Split tells: the components, and dir.
func TestWalkIsSteps(t *testing.T) {
	c := cache(append(example(), link(1, "to", 6, "a"))...)
	for _, x := range []struct {
		path  string
		steps []string
		dir   bool
	}{
		{"/", nil, true},
		{"/a", []string{"a"}, false},
		{"//a//b", []string{"a", "b"}, false},
		{"/b/", []string{"b"}, true},
		{"/to", []string{"to"}, false},
		{"/to/", []string{"to"}, true},
		{"/to/.", []string{"to", "."}, true},
		{"/to/..", []string{"to", ".."}, true},
		{"/to/l", []string{"to", "l"}, false},
		{"/to/l/", []string{"to", "l"}, true},
		{"/\xff/x", []string{"\xff", "x"}, false},
	} {
		for _, follow := range []bool{false, true} {
			for links := -1; links < 4; links++ {
				comes(t, x.path, walk.Walk(c, nil, x.path, follow, links), walk.Steps(c, nil, x.steps, x.dir, follow, links))
			}
		}
	}
}

// A walk without components stands at the root, whatever is known; the root has the mode 0.
func TestNoComponents(t *testing.T) {
	caches := []*dent.Cache{cache(), set(cache(), 0, 1), cache(folder(1, "a", 1), folder(0, "b", 1), none(1, "."), file(1, "..", 4))}
	for _, c := range caches {
		for _, fresh := range [][]api.Entry{nil, {}, {folder(1, "", 9), file(1, ".", 9), none(1, "..")}} {
			both(t, c, fresh, walked{"/", false, 0, finds(root())}, walked{"///", false, 9, finds(root())}, walked{"/.", false, 3, finds(root())}, walked{"/..", false, 3, finds(root())}, walked{"/.././../..", false, 3, finds(root())})
			for _, steps := range [][]string{nil, {}, {"."}, {".."}, {"..", ".", ".."}} {
				for _, dir := range []bool{false, true} {
					comes(t, "no components", walk.Steps(c, fresh, steps, dir, dir, 3), finds(root()))
				}
			}
		}
	}
}

// limits are what links may be, and what it counts as.
func limits() map[int]int {
	return map[int]int{
		-1 << 63: 0, -8: 0, -1: 0, 0: 0, 1: 1, 2: 2, api.MaxLinks - 1: api.MaxLinks - 1,
		api.MaxLinks: api.MaxLinks, api.MaxLinks + 1: api.MaxLinks, 99: api.MaxLinks, 1<<63 - 1: api.MaxLinks,
	}
}

// A link to itself is used once for each link that may be met, and once more.
func TestLinks(t *testing.T) {
	m := key(1, "m")
	for _, target := range []string{"m", "/m", "./m", "../../m", "m/", "m/.", "m/x"} {
		c := cache(link(1, "m", 5, target))
		for links, counts := range limits() {
			want := fails(api.ErrLoop, times(m, counts+1)...)
			both(t, c, nil, walked{"/m/", false, links, want}, walked{"/m/x", false, links, want}, walked{"/m/..", false, links, want}, walked{"/./m/.", false, links, want})
			all(t, c, nil, walked{"/m", true, links, want}, walked{"/m", false, links, finds(link(1, "m", 5, target).Node, m)})
			comes(t, target, walk.Steps(c, nil, []string{"m"}, false, true, links), want)
			comes(t, target, walk.Steps(c, nil, []string{"m"}, true, false, links), want)
			comes(t, target, walk.Steps(c, nil, []string{"m"}, false, false, links), finds(link(1, "m", 5, target).Node, m))
		}
	}
}

// chain are links c1 to cN, each to the one ahead; c1 is one to f, a file.
func chain(count int) (known []api.Entry, used []api.Key) {
	known = []api.Entry{file(1, "f", 50)}
	last := "f"
	for i := range count {
		called := "c" + string(rune('1'+i))
		known = append(known, link(1, called, 60+i, last))
		last = called
	}
	for _, e := range slices.Backward(known) {
		used = append(used, e.Key)
	}
	return known, used
}

// A chain of as many links as may be met comes to its end; of one more it comes to ErrLoop, at the last link.
func TestChainsOfLinks(t *testing.T) {
	for count := 1; count <= api.MaxLinks+1; count++ {
		known, used := chain(count)
		path := "/" + used[0].Name
		for links, counts := range limits() {
			want := finds(file(1, "f", 50).Node, used...)
			if count > counts {
				want = fails(api.ErrLoop, used[:counts+1]...)
			}
			all(t, cache(known...), nil, walked{path, true, links, want}, walked{path, false, links, finds(known[count].Node, used[0])})
			all(t, cache(), known, walked{path, true, links, want})
			if want.Err == api.OK {
				want = fails(api.ErrNotDir, used...)
			}
			both(t, cache(known...), nil, walked{path + "/", false, links, want}, walked{path + "/x", false, links, want})
		}
	}
}

// Links that are met one behind the other count together, those that are stood at don't.
func TestLinksAreCountedInAll(t *testing.T) {
	d, e, s := key(1, "d"), key(1, "e"), key(1, "s")
	c := cache(folder(1, "d", 2), link(1, "e", 3, "d"), link(2, "up", 4, "/"), link(1, "s", 5, "."))
	up := key(2, "up")
	all(t, c, nil,
		walked{"/e/up/e/up", false, 3, finds(link(2, "up", 4, "/").Node, e, d, up, e, d, up)},
		walked{"/e/up/e/up", true, 3, fails(api.ErrLoop, e, d, up, e, d, up)},
		walked{"/e/up/e/up", true, 4, finds(root(), e, d, up, e, d, up)},
		walked{"/e/up/e/up", false, 2, fails(api.ErrLoop, e, d, up, e)},
		walked{"/s/s/s", true, 3, finds(root(), s, s, s)},
		walked{"/s/s/s", true, 2, fails(api.ErrLoop, s, s, s)},
		walked{"/s/s/s", false, 2, finds(link(1, "s", 5, ".").Node, s, s, s)},
		walked{"/s/s/d", false, 2, finds(folder(1, "d", 2).Node, s, s, d)},
	)
}
