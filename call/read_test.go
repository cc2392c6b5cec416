package call_test

import (
	"math"
	"testing"

	"vista/api"
)

// P15.3: reads

// With nothing cached each component is asked for, one after the other; with all cached nothing is.
func TestReadsOfAPath(t *testing.T) {
	d, e, f := folder(1, "d", 2), folder(2, "e", 3), file(3, "f", 4)
	for kind, want := range map[int]api.Answer{
		api.CallLookup:   finds(f.Node, 7),
		api.CallStat:     finds(f.Node, 7),
		api.CallReadlink: fails(api.ErrNotLink, 7),
		api.CallReaddir:  fails(api.ErrNotDir, 7),
	} {
		call := api.Call{Kind: kind, Path: "/d/e/f", Other: "/x", Mode: -9}
		c := client(t, limits())
		of(c.Start(call)).sends(t, ask(1, 0, look(1, "d")))
		of(c.Take(reply(1, 1, 0, api.ErrEpoch))).sends(t, ask(1, 1, look(1, "d")))
		of(c.Take(reply(1, 1, 5, api.OK, d))).sends(t, ask(2, 1, look(2, "e")))
		of(c.Take(reply(2, 1, 6, api.OK, e))).sends(t, ask(3, 1, look(3, "f")))
		stands(t, c, 1, 6, true, 0)
		of(c.Take(reply(3, 1, 7, api.OK, f))).ends(t, want)
		stands(t, c, 1, 7, false, 0)
		holds(t, c, d, e, f)
		of(c.Start(call)).ends(t, want)
		holds(t, c, d, e, f)
		// A part is cached: the rest is asked for.
		c.Take(broken(1+1i, 7, key(2, "")))
		holds(t, c, d, f)
		of(c.Start(call)).sends(t, ask(4, 1+1i, look(2, "e")))
		holds(t, c, f, d)
		of(c.Take(reply(4, 1+1i, 7, api.OK, e))).ends(t, want)
		holds(t, c, d, e, f)
	}
}

// What is none, what is no directory, and what is behind it is told by what is cached.
func TestReadsThatFail(t *testing.T) {
	for kind := api.CallLookup; kind <= api.CallReaddir; kind++ {
		c := knows(t, limits(), none(1, "n"), file(1, "f", 2), link(1, "o", 3, "o"), link(1, "p", 4, ""))
		for path, e := range map[string]api.Errno{
			"/n": api.ErrNotFound, "/n/": api.ErrNotFound, "/n/x/y": api.ErrNotFound, "/./n/..": api.ErrNotFound,
			"/f/": api.ErrNotDir, "/f/x": api.ErrNotDir, "/f/.": api.ErrNotDir, "/f/..": api.ErrNotDir, "/f/n": api.ErrNotDir,
			"/o/": api.ErrLoop, "/o/x": api.ErrLoop, "/p/": api.ErrPath, "/p/x": api.ErrPath,
		} {
			of(c.Start(api.Call{Kind: kind, Path: path})).ends(t, fails(e, 5))
			if t.Failed() {
				t.Fatalf("%q by %d", path, kind)
			}
		}
		// Told just now, and not cached ahead.
		of(c.Start(api.Call{Kind: kind, Path: "/x/y"})).sends(t, ask(5, 1, look(1, "x")))
		of(c.Take(reply(5, 1, 6, api.OK, none(1, "x")))).ends(t, fails(api.ErrNotFound, 6))
		of(c.Start(api.Call{Kind: kind, Path: "/y/y"})).sends(t, ask(6, 1, look(1, "y")))
		of(c.Take(reply(6, 1, 6, api.OK, file(1, "y", 9)))).ends(t, fails(api.ErrNotDir, 6))
	}
}

// R5: a node of another kind is neither a directory nor a link; ids and modes may be any numbers.
func TestOddNodes(t *testing.T) {
	for _, kind := range []int{math.MinInt, -1, 0, api.KindFile, 4, math.MaxInt} {
		for _, id := range []int{math.MinInt, -1, 0, 1, math.MaxInt} {
			odd := api.Entry{Key: key(1, "o"), Node: api.Node{ID: id, Kind: kind, Mode: -id, Target: "/"}}
			c := knows(t, limits(), odd)
			of(c.Start(lookup("/o"))).ends(t, finds(odd.Node, 5))
			of(c.Start(stat("/o"))).ends(t, finds(odd.Node, 5))
			of(c.Start(readlink("/o"))).ends(t, fails(api.ErrNotLink, 5))
			of(c.Start(readdir("/o"))).ends(t, fails(api.ErrNotDir, 5))
			of(c.Start(unlink("/o/x"))).ends(t, fails(api.ErrNotDir, 5))
			of(c.Start(rename("/x", "/o/x"))).ends(t, fails(api.ErrNotDir, 5))
			// A directory of any number is asked for by it.
			c = knows(t, limits(), folder(1, "d", id))
			if id == api.Root {
				continue
			}
			of(c.Start(lookup("/d/x"))).sends(t, ask(2, 1, look(id, "x")))
			of(c.Take(reply(2, 1, math.MaxInt, api.OK, none(id, "x")))).ends(t, fails(api.ErrNotFound, math.MaxInt))
			of(c.Start(readdir("/d"))).sends(t, ask(3, 1, list(id)))
			of(c.Take(reply(3, 1, math.MinInt, api.OK, file(id, "y", id)))).ends(t, tells(math.MaxInt, "y"))
			of(c.Start(unlink("/d/x"))).sends(t, ask(4, 1, api.Op{Kind: api.OpUnlink, Dir: id, Name: "x"}))
		}
	}
}

// The root is there without a message; it is no link.
func TestReadsOfTheRoot(t *testing.T) {
	for _, path := range []string{"/", "///", "/.", "/..", "/../.././"} {
		c := client(t, limits())
		of(c.Start(lookup(path))).ends(t, finds(root(), 0))
		of(c.Start(stat(path))).ends(t, finds(root(), 0))
		of(c.Start(readlink(path))).ends(t, fails(api.ErrNotLink, 0))
		of(c.Start(readdir(path))).sends(t, ask(1, 0, list(1)))
	}
}

// At the end of a path links are followed by CallLookup and CallReaddir; behind names, and where a directory must be, by all.
func TestLinks(t *testing.T) {
	d, l, f := folder(1, "d", 2), link(1, "l", 3, "d"), link(2, "f", 4, "../g")
	g := file(1, "g", 5)
	for _, x := range []struct {
		path                          string
		lookup, stat, readlink, names api.Answer
	}{
		{"/l", finds(d.Node, 5), finds(l.Node, 5), finds(l.Node, 5), tells(5, "f")},
		{"/l/", finds(d.Node, 5), finds(d.Node, 5), fails(api.ErrNotLink, 5), tells(5, "f")},
		{"/l/.", finds(d.Node, 5), finds(d.Node, 5), fails(api.ErrNotLink, 5), tells(5, "f")},
		{"/l/f", finds(g.Node, 5), finds(f.Node, 5), finds(f.Node, 5), fails(api.ErrNotDir, 5)},
		{"/l/../l/f", finds(g.Node, 5), finds(f.Node, 5), finds(f.Node, 5), fails(api.ErrNotDir, 5)},
		{"/l/f/", fails(api.ErrNotDir, 5), fails(api.ErrNotDir, 5), fails(api.ErrNotDir, 5), fails(api.ErrNotDir, 5)},
		{"/l/f/x", fails(api.ErrNotDir, 5), fails(api.ErrNotDir, 5), fails(api.ErrNotDir, 5), fails(api.ErrNotDir, 5)},
		{"/l/l/l", fails(api.ErrNotFound, 5), fails(api.ErrNotFound, 5), fails(api.ErrNotFound, 5), fails(api.ErrNotFound, 5)},
		{"/l/../l/../l/../l", fails(api.ErrLoop, 5), finds(l.Node, 5), finds(l.Node, 5), fails(api.ErrLoop, 5)},
	} {
		c := knows(t, limits(), d, l, g)
		of(c.Start(readdir("/d"))).sends(t, ask(4, 1, list(2)))
		of(c.Take(reply(4, 1, 5, api.OK, f))).ends(t, tells(5, "f"))
		of(c.Start(lookup(x.path))).ends(t, x.lookup)
		of(c.Start(stat(x.path))).ends(t, x.stat)
		of(c.Start(readlink(x.path))).ends(t, x.readlink)
		of(c.Start(readdir(x.path))).ends(t, x.names)
		if t.Failed() {
			t.Fatalf("at %q", x.path)
		}
	}
}

// What a link leads to is asked for like any other name.
func TestLinksThatLeadToTheUnknown(t *testing.T) {
	l := link(1, "l", 3, "/d/x/")
	for kind, then := range map[int]func(o outcome){
		api.CallLookup:   func(o outcome) { o.sends(t, ask(2, 1, look(1, "d"))) },
		api.CallReaddir:  func(o outcome) { o.sends(t, ask(2, 1, look(1, "d"))) },
		api.CallStat:     func(o outcome) { o.ends(t, finds(l.Node, 5)) },
		api.CallReadlink: func(o outcome) { o.ends(t, finds(l.Node, 5)) },
	} {
		then(of(knows(t, limits(), l).Start(api.Call{Kind: kind, Path: "/l"})))
		for _, behind := range []string{"/", "/.", "/y"} {
			of(knows(t, limits(), l).Start(api.Call{Kind: kind, Path: "/l" + behind})).sends(t, ask(2, 1, look(1, "d")))
		}
	}
}

// Links are met up to the limit of the client's conf.
func TestLinksUpToTheLimit(t *testing.T) {
	chain := []api.Entry{link(1, "a", 2, "b"), link(1, "b", 3, "c"), link(1, "c", 4, "d"), link(1, "d", 5, "e"), file(1, "e", 6)}
	for links := range 6 {
		conf := limits()
		conf.Links = links
		c := knows(t, conf, chain...)
		for i := range chain {
			want := finds(chain[4].Node, 5)
			if 4-i > links {
				want = fails(api.ErrLoop, 5)
			}
			of(c.Start(lookup("/"+chain[i].Key.Name))).ends(t, want)
		}
	}
}

// Each used key is the one used last then, in order, once for each use: with a node, with an error, and with a key that is wanted.
func TestUses(t *testing.T) {
	d, l, f, n, x := folder(1, "d", 2), link(1, "l", 3, "/d"), file(2, "f", 4), none(2, "n"), file(1, "x", 5)
	begin := []api.Entry{d, l, f, n, x}
	for _, row := range []struct {
		call api.Call
		want []api.Entry
	}{
		{lookup("/"), []api.Entry{d, l, f, n, x}},
		{lookup("/d"), []api.Entry{l, f, n, x, d}},
		{lookup("/l"), []api.Entry{f, n, x, l, d}},
		{stat("/l"), []api.Entry{d, f, n, x, l}},
		{readlink("/l"), []api.Entry{d, f, n, x, l}},
		{readlink("/d/f"), []api.Entry{l, n, x, d, f}},
		{lookup("/d/../d/f/"), []api.Entry{l, n, x, d, f}},
		{lookup("/d/f/../../x"), []api.Entry{l, n, x, d, f}},
		{lookup("/x/../d"), []api.Entry{d, l, f, n, x}},
		{lookup("/d/../x"), []api.Entry{l, f, n, d, x}},
		{readdir("/d/n"), []api.Entry{l, f, x, d, n}},
		{readdir("/d/y"), []api.Entry{l, f, n, x, d}},
		{readdir("/l"), []api.Entry{f, n, x, l, d}},
		{stat("/d/../l/y"), []api.Entry{f, n, x, l, d}},
		{stat("/l/../d/f"), []api.Entry{n, x, l, d, f}},
		{create("/d/n", 1), []api.Entry{l, f, n, x, d}},
		{unlink("/d/f/g"), []api.Entry{l, n, x, d, f}},
		{unlink("/l/g"), []api.Entry{f, n, x, l, d}},
		{unlink("/d/g/h"), []api.Entry{l, f, n, x, d}},
		{rename("/l/f", "/d/y"), []api.Entry{f, n, x, l, d}},
		{rename("/d/f", "/x/y"), []api.Entry{l, f, n, d, x}},
		{rename("/x/y", "/d/f"), []api.Entry{d, l, f, n, x}},
		{rename("/y/z", "/d/f"), []api.Entry{d, l, f, n, x}},
		{rename("/d/f", "/x"), []api.Entry{l, f, n, x, d}},
	} {
		c := knows(t, limits(), begin...)
		c.Start(row.call)
		if holds(t, c, row.want...); t.Failed() {
			t.Fatalf("at %+v", row.call)
		}
	}
}

// CallReaddir of a directory that a whole reply has just told: all names are cached, and are read without a message from then on.
func TestReaddir(t *testing.T) {
	d, f, g := folder(1, "d", 2), file(2, "f", 3), file(2, "g", 4)
	c := knows(t, limits(), d, none(2, "n"))
	of(c.Start(readdir("/d"))).sends(t, ask(3, 1, list(2)))
	of(c.Take(reply(3, 1, 6, api.OK, f, g))).ends(t, tells(6, "f", "g"))
	wholes(t, c, 2)
	holds(t, c, none(2, "n"), f, g, d)
	for _, path := range []string{"/d", "/d/", "//d//.", "/d/../d"} {
		of(c.Start(readdir(path))).ends(t, tells(6, "f", "g"))
	}
	// Whatever is not cached there is none.
	of(c.Start(lookup("/d/h"))).ends(t, fails(api.ErrNotFound, 6))
	of(c.Start(readdir("/d/h"))).ends(t, fails(api.ErrNotFound, 6))
	holds(t, c, none(2, "n"), f, g, d)
}

// A directory without names, the root, and names that were not told in their order.
func TestReaddirOfOthers(t *testing.T) {
	c := knows(t, limits())
	of(c.Start(readdir("/"))).sends(t, ask(1, 1, list(1)))
	of(c.Take(reply(1, 1, 6, api.OK))).ends(t, tells(6))
	wholes(t, c, 1)
	of(c.Start(readdir("/"))).ends(t, tells(6))
	of(c.Start(lookup("/a"))).ends(t, fails(api.ErrNotFound, 6))

	c = knows(t, limits())
	of(c.Start(readdir("/.."))).sends(t, ask(1, 1, list(1)))
	of(c.Take(reply(1, 1, 6, api.OK, file(1, "\xff", 2), file(1, "b", 3), none(1, "c"), file(1, "B", 4)))).ends(t, tells(6, "B", "b", "\xff"))
	of(c.Start(readdir("/"))).ends(t, tells(6, "B", "b", "\xff"))
}

// All names were told, but there is no room for them: the answer has them all, as they were told, and the next time they are asked for again.
func TestReaddirWithoutRoom(t *testing.T) {
	conf := limits()
	conf.Dentries = 2
	all := []api.Entry{file(2, "c", 5), file(2, "a", 3), file(2, "b", 4)}
	c := knows(t, conf, folder(1, "d", 2))
	of(c.Start(readdir("/d"))).sends(t, ask(2, 1, list(2)))
	of(c.Take(reply(2, 1, 6, api.OK, all...))).ends(t, tells(6, "c", "a", "b"))
	wholes(t, c)
	holds(t, c, file(2, "b", 4), folder(1, "d", 2))
	of(c.Start(readdir("/d"))).sends(t, ask(3, 1, list(2)))
	// With an entry less it is told from the cache; of names that are none as many go as must.
	of(c.Take(reply(3, 1, 7, api.OK, file(2, "b", 4)))).ends(t, tells(7, "b"))
	wholes(t, c, 2)
	conf.Negative = 1
	c = knows(t, conf)
	of(c.Start(readdir("/"))).sends(t, ask(1, 1, list(1)))
	of(c.Take(reply(1, 1, 6, api.OK, none(1, "a"), none(1, "b"), file(1, "c", 2)))).ends(t, tells(6, "c"))
	wholes(t, c, 1)
	holds(t, c, none(1, "b"), file(1, "c", 2))
}

// The directory's own entry went with what was put: it is known by the reply no more than by the cache, and is asked for again.
func TestReaddirWhoseOwnEntryWent(t *testing.T) {
	conf := limits()
	conf.Dentries = 1
	c := knows(t, conf, folder(1, "d", 2))
	of(c.Start(readdir("/d"))).sends(t, ask(2, 1, list(2)))
	// The leaf goes, and the directory stays.
	of(c.Take(reply(2, 1, 6, api.OK, file(2, "a", 3)))).ends(t, tells(6, "a"))
	holds(t, c, folder(1, "d", 2))
	of(c.Start(readdir("/d"))).sends(t, ask(3, 1, list(2)))
	// An entry of another directory: now the directory is the leaf longest unused.
	of(c.Take(reply(3, 1, 6, api.OK, file(5, "a", 3)))).sends(t, ask(4, 1, look(1, "d")))
	holds(t, c, file(5, "a", 3))
	of(c.Take(reply(4, 1, 6, api.OK, folder(1, "d", 2)))).ends(t, tells(6))
	wholes(t, c, 2)
}

// A reply that is not whole does not say that there are no others: the directory is asked for again.
func TestReaddirNotWhole(t *testing.T) {
	d, f, g := folder(1, "d", 2), file(2, "f", 3), file(2, "g", 4)
	c := knows(t, limits(), d)
	of(c.Start(readdir("/d"))).sends(t, ask(2, 1, list(2)))
	of(c.Take(broken(1+1i, 7, key(2, "f")))).sends(t)
	of(c.Take(reply(2, 1, 6, api.OK, f, g))).sends(t, ask(3, 1+1i, list(2)))
	wholes(t, c)
	holds(t, c, g, d)
	// Nor does a break of another directory leave it whole.
	of(c.Take(broken(1+2i, 8, key(7, "x")))).sends(t)
	of(c.Take(reply(3, 1+1i, 7, api.OK, g))).sends(t, ask(4, 1+2i, list(2)))
	wholes(t, c)
	of(c.Take(reply(4, 1+2i, 8, api.OK, g))).ends(t, tells(8, "g"))
	wholes(t, c, 2)
}

// The directory moved, or is another one now, while it was asked for: what was told is cached, and the one that the path leads to is asked for.
func TestReaddirOfAnotherByThen(t *testing.T) {
	c := knows(t, limits(), folder(1, "d", 2))
	of(c.Start(readdir("/d"))).sends(t, ask(2, 1, list(2)))
	of(c.Take(broken(1+1i, 6, key(1, "d")))).sends(t)
	// The reply was made behind the break, and is a whole one.
	of(c.Take(reply(2, 1+1i, 6, api.OK, file(2, "f", 3)))).sends(t, ask(3, 1+1i, look(1, "d")))
	wholes(t, c, 2)
	holds(t, c, file(2, "f", 3))
	of(c.Take(reply(3, 1+1i, 6, api.OK, folder(1, "d", 9)))).sends(t, ask(4, 1+1i, list(9)))
	of(c.Take(reply(4, 1+1i, 6, api.OK, file(9, "g", 10)))).ends(t, tells(6, "g"))
	wholes(t, c, 2, 9)
	// It is no directory any more.
	of(c.Take(flush(1+2i, 7))).sends(t)
	teach(t, c, 1+2i, 7, folder(1, "d", 9))
	of(c.Start(readdir("/d"))).sends(t, ask(6, 1+2i, list(9)))
	of(c.Take(broken(1+3i, 8, key(1, "d")))).sends(t)
	of(c.Take(reply(6, 1+3i, 8, api.ErrStale))).sends(t, ask(7, 1+3i, look(1, "d")))
	of(c.Take(reply(7, 1+3i, 8, api.OK, file(1, "d", 11)))).ends(t, fails(api.ErrNotDir, 8))
}

// A whole reply to a look, or to the list of another directory, tells of no directory that it is whole.
func TestOnlyAListTellsAll(t *testing.T) {
	c := knows(t, limits())
	of(c.Start(readdir("/d"))).sends(t, ask(1, 1, look(1, "d")))
	of(c.Take(reply(1, 1, 6, api.OK, folder(1, "d", 2), file(2, "f", 3)))).sends(t, ask(2, 1, list(2)))
	wholes(t, c)
	// Entries of others are cached, too; it is the directory that was asked for that is whole.
	of(c.Take(reply(2, 1, 6, api.OK, file(2, "g", 4), file(5, "h", 6)))).ends(t, tells(6, "f", "g"))
	wholes(t, c, 2)
	// With the cache too small it is the reply's names that are told, whatever they are.
	conf := limits()
	conf.Dentries = 1
	c = knows(t, conf, folder(1, "d", 2))
	of(c.Start(readdir("/d"))).sends(t, ask(2, 1, list(2)))
	of(c.Take(reply(2, 1, 6, api.OK, file(2, "g", 4), file(2, "", 6), folder(1, "d", 2)))).ends(t, tells(6, "g", "", "d"))
}
