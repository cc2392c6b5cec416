package call_test

import (
	"testing"

	"vista/api"
)

// P15.3: mutations, and CallSync

// Each kind asks for its own op, with the fields that the chapter names, and no others.
func TestMutations(t *testing.T) {
	d, f := folder(1, "d", 2), file(2, "f", 3)
	for kind, op := range map[int]api.Op{
		api.CallCreate:  {Kind: api.OpCreate, Dir: 2, Name: "x", Mode: 9},
		api.CallMkdir:   {Kind: api.OpMkdir, Dir: 2, Name: "x", Mode: 9},
		api.CallSymlink: {Kind: api.OpSymlink, Dir: 2, Name: "x", Target: "/e/y"},
		api.CallUnlink:  {Kind: api.OpUnlink, Dir: 2, Name: "x"},
		api.CallRmdir:   {Kind: api.OpRmdir, Dir: 2, Name: "x"},
		api.CallRename:  {Kind: api.OpRename, Dir: 2, Name: "x", To: 4, New: "y"},
		api.CallSetattr: {Kind: api.OpSetattr, Dir: 2, Name: "x", Mode: 9},
	} {
		call := api.Call{Kind: kind, Path: "/d/x", Other: "/e/y", Mode: 9}
		for _, path := range []string{"/d/x", "/d/x/", "//d/.//x", "/d/../d/x//", "/../d/x"} {
			call.Path = path
			c := knows(t, limits(), d, f, folder(1, "e", 4))
			of(c.Start(call)).sends(t, ask(4, 1, op))
			stands(t, c, 1, 5, true, 0)
			// The answer has its error alone, whatever was told; that is cached.
			of(c.Take(reply(4, 1, 8, api.OK, file(2, "x", 7)))).ends(t, fails(api.OK, 8))
			stands(t, c, 1, 8, false, 0)
			of(c.Start(stat("/d/x"))).ends(t, finds(file(2, "x", 7).Node, 8))
		}
		// With nothing cached its directory is looked up first.
		call.Path = "/d/x"
		c := client(t, limits())
		of(c.Start(call)).sends(t, ask(1, 0, look(1, "d")))
		of(c.Take(reply(1, 1, 0, api.ErrEpoch))).sends(t, ask(1, 1, look(1, "d")))
		first := of(c.Take(reply(1, 1, 5, api.OK, d)))
		if kind == api.CallRename {
			first.sends(t, ask(2, 1, look(1, "e")))
			of(c.Take(reply(2, 1, 5, api.OK, folder(1, "e", 4)))).sends(t, ask(3, 1, op))
			of(c.Take(reply(3, 1, 5, api.ErrExist))).ends(t, fails(api.ErrExist, 5))
			continue
		}
		first.sends(t, ask(2, 1, op))
		of(c.Take(reply(2, 1, 5, api.ErrExist))).ends(t, fails(api.ErrExist, 5))
	}
}

// A name in the root needs no lookup; the last component is never looked up, whatever it is.
func TestMutationsInTheRoot(t *testing.T) {
	for _, kind := range mutations() {
		for _, path := range []string{"/x", "/x/", "/./x", "/../../x", "//x//"} {
			call := api.Call{Kind: kind, Path: path, Other: "/y"}
			for _, c := range []struct {
				known []api.Entry
				seq   int
			}{{nil, 1}, {[]api.Entry{none(1, "x")}, 2}, {[]api.Entry{link(1, "x", 2, "x"), file(1, "y", 3)}, 3}} {
				out, done, _ := knows(t, limits(), c.known...).Start(call)
				if done || len(out) != 1 || out[0].Op.Dir != 1 || out[0].Op.Name != "x" || out[0].Seq != c.seq || out[0].Op.Kind == api.OpLook {
					t.Errorf("%+v: %v, %v", call, out, done)
				}
			}
		}
	}
}

// Links on the way to the directory are followed, the directory itself may be a link.
func TestMutationsBehindLinks(t *testing.T) {
	for _, kind := range mutations() {
		c := knows(t, limits(), folder(1, "d", 2), link(1, "l", 3, "d"), link(2, "m", 4, "/l"), file(1, "f", 5), link(1, "o", 6, "o"), link(1, "g", 7, "f"))
		for _, x := range []struct {
			path string
			dir  int
		}{{"/l/x", 2}, {"/d/m/x", 2}, {"/l/m/x/", 2}, {"/l/../x", 1}, {"/d/m/../x", 1}} {
			out, done, answer := c.Start(api.Call{Kind: kind, Path: x.path, Other: "/l/y"})
			if done || len(out) != 1 || out[0].Op.Dir != x.dir || out[0].Op.Name != "x" || kind == api.CallRename && (out[0].Op.To != 2 || out[0].Op.New != "y") {
				t.Errorf("%d of %q: %v, %v", kind, x.path, out, answer)
			}
			c.Cancel()
		}
		for path, e := range map[string]api.Errno{"/f/x": api.ErrNotDir, "/g/x": api.ErrNotDir, "/f/../x": api.ErrNotDir, "/o/x": api.ErrLoop, "/d/m/m/x": api.ErrLoop, "/f/y/x": api.ErrNotDir} {
			of(c.Start(api.Call{Kind: kind, Path: path, Other: "/y"})).ends(t, fails(e, 5))
		}
		of(c.Start(api.Call{Kind: kind, Path: "/d/e/x", Other: "/y"})).sends(t, ask(12, 1, look(2, "e")))
		of(c.Take(reply(12, 1, 6, api.OK, none(2, "e")))).ends(t, fails(api.ErrNotFound, 6))
	}
}

// CallRename: each of its paths may want a key, may fail, and the first one does so first.
func TestRename(t *testing.T) {
	d, e := folder(1, "d", 2), folder(1, "e", 3)
	op := api.Op{Kind: api.OpRename, Dir: 2, Name: "x", To: 3, New: "y"}
	for _, row := range []struct {
		known []api.Entry
		call  api.Call
		want  func(o outcome, seq int)
	}{
		{[]api.Entry{d, e}, rename("/d/x", "/e/y"), func(o outcome, seq int) { o.sends(t, ask(seq, 1, op)) }},
		{[]api.Entry{d}, rename("/d/x", "/e/y"), func(o outcome, seq int) { o.sends(t, ask(seq, 1, look(1, "e"))) }},
		{[]api.Entry{e}, rename("/d/x", "/e/y"), func(o outcome, seq int) { o.sends(t, ask(seq, 1, look(1, "d"))) }},
		{nil, rename("/d/x", "/e/y"), func(o outcome, seq int) { o.sends(t, ask(seq, 1, look(1, "d"))) }},
		{[]api.Entry{none(1, "e")}, rename("/d/x", "/e/y"), func(o outcome, seq int) { o.sends(t, ask(seq, 1, look(1, "d"))) }},
		{[]api.Entry{none(1, "d")}, rename("/d/x", "/e/y"), func(o outcome, _ int) { o.ends(t, fails(api.ErrNotFound, 5)) }},
		{[]api.Entry{d, none(1, "e")}, rename("/d/x", "/e/y"), func(o outcome, _ int) { o.ends(t, fails(api.ErrNotFound, 5)) }},
		{[]api.Entry{none(1, "d"), file(1, "e", 3)}, rename("/d/x", "/e/y"), func(o outcome, _ int) { o.ends(t, fails(api.ErrNotFound, 5)) }},
		{[]api.Entry{file(1, "d", 2), none(1, "e")}, rename("/d/x", "/e/y"), func(o outcome, _ int) { o.ends(t, fails(api.ErrNotDir, 5)) }},
		{[]api.Entry{d, file(1, "e", 3)}, rename("/d/x", "/e/y"), func(o outcome, _ int) { o.ends(t, fails(api.ErrNotDir, 5)) }},
		{[]api.Entry{d}, rename("/d/x", "/d/y"), func(o outcome, seq int) {
			o.sends(t, ask(seq, 1, api.Op{Kind: api.OpRename, Dir: 2, Name: "x", To: 2, New: "y"}))
		}},
		{[]api.Entry{d}, rename("/x", "/d/y"), func(o outcome, seq int) {
			o.sends(t, ask(seq, 1, api.Op{Kind: api.OpRename, Dir: 1, Name: "x", To: 2, New: "y"}))
		}},
		{[]api.Entry{d}, rename("/d/x", "/y"), func(o outcome, seq int) {
			o.sends(t, ask(seq, 1, api.Op{Kind: api.OpRename, Dir: 2, Name: "x", To: 1, New: "y"}))
		}},
	} {
		row.want(of(knows(t, limits(), row.known...).Start(row.call)), len(row.known)+1)
	}
}

// While the second path of a CallRename is looked up, the first one is broken: it is walked anew.
func TestRenameWalksAnew(t *testing.T) {
	d, e := folder(1, "d", 2), folder(1, "e", 3)
	c := knows(t, limits(), d)
	of(c.Start(rename("/d/x", "/e/y"))).sends(t, ask(2, 1, look(1, "e")))
	of(c.Take(broken(1+1i, 6, key(1, "d")))).sends(t)
	of(c.Take(reply(2, 1+1i, 6, api.OK, e))).sends(t, ask(3, 1+1i, look(1, "d")))
	of(c.Take(broken(1+2i, 7, key(1, "e")))).sends(t)
	of(c.Take(reply(3, 1+2i, 7, api.OK, folder(1, "d", 8)))).sends(t, ask(4, 1+2i, look(1, "e")))
	of(c.Take(reply(4, 1+2i, 7, api.OK, folder(1, "e", 9)))).sends(t, ask(5, 1+2i, api.Op{Kind: api.OpRename, Dir: 8, Name: "x", To: 9, New: "y"}))
	of(c.Take(reply(5, 1+2i, 8, api.ErrInside, none(1, "z")))).ends(t, fails(api.ErrInside, 8))
	holds(t, c, folder(1, "d", 8), folder(1, "e", 9))
}

// With room for one entry a rename never knows both of its directories by the cache; what was told just now counts beside it.
func TestRenameWithoutRoom(t *testing.T) {
	conf := limits()
	conf.Dentries = 1
	c := knows(t, conf)
	of(c.Start(rename("/d/x", "/e/y"))).sends(t, ask(1, 1, look(1, "d")))
	of(c.Take(reply(1, 1, 5, api.OK, folder(1, "d", 2)))).sends(t, ask(2, 1, look(1, "e")))
	of(c.Take(reply(2, 1, 5, api.OK, folder(1, "e", 3)))).sends(t, ask(3, 1, look(1, "d")))
	holds(t, c, folder(1, "e", 3))
	of(c.Take(reply(3, 1, 5, api.OK, folder(1, "d", 2), folder(1, "e", 3)))).sends(t, ask(4, 1, api.Op{Kind: api.OpRename, Dir: 2, Name: "x", To: 3, New: "y"}))
	holds(t, c, folder(1, "e", 3))
}

// CallSync asks for a reply, and is answered with its error.
func TestSync(t *testing.T) {
	for _, e := range []api.Errno{api.OK, api.ErrBusy, api.ErrFull, 99, -3} {
		c := client(t, limits())
		of(c.Start(api.Call{Kind: api.CallSync})).sends(t, ask(1, 0, syncs()))
		stands(t, c, 0, 0, true, 0)
		of(c.Take(reply(1, 1, 0, api.ErrEpoch))).sends(t, ask(1, 1, syncs()))
		// What stands in the reply is not learned.
		of(c.Take(reply(1, 1, 6, e, file(1, "a", 2), none(1, "b")))).ends(t, fails(e, 6))
		stands(t, c, 1, 6, false, 0)
		holds(t, c)
		wholes(t, c)
		of(c.Start(api.Call{Kind: api.CallSync})).sends(t, ask(2, 1, syncs()))
	}
}
