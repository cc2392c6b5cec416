package call_test

import (
	"math"
	"strings"
	"testing"

	"vista/api"
)

// P15.2

// refused is a call with the error that it is answered with at once.
type refused struct {
	call api.Call
	e    api.Errno
}

// refusals are all that may be wrong with a call, with several wrongs in their order, too.
func refusals() []refused {
	long, deep := "/"+strings.Repeat("x", api.MaxName+1), strings.Repeat("/", api.MaxPath+1)
	all := []refused{
		// Kinds that are none, whatever else is wrong.
		{api.Call{}, api.ErrArg}, {api.Call{Kind: -1}, api.ErrArg}, {api.Call{Kind: api.CallSync + 1}, api.ErrArg},
		{api.Call{Kind: math.MinInt, Path: deep}, api.ErrArg}, {api.Call{Kind: math.MaxInt, Path: long, Mode: -1}, api.ErrArg},
		{api.Call{Kind: 0, Path: "/"}, api.ErrArg}, {api.Call{Kind: api.CallSync + 1, Path: "/a", Other: "/b"}, api.ErrArg},
		// Rename: both paths, the first one first.
		{rename("/a", ""), api.ErrPath}, {rename("/a", "b"), api.ErrPath}, {rename("/a", "/"), api.ErrName}, {rename("/a", "/b/."), api.ErrName},
		{rename("/a", long), api.ErrNameTooLong}, {rename("/a", deep), api.ErrPathTooLong}, {rename("/a", "/\x00"), api.ErrPath},
		{rename("/", "b"), api.ErrName}, {rename("a", "/"), api.ErrPath}, {rename(long, deep), api.ErrNameTooLong}, {rename(deep, long), api.ErrPathTooLong},
		// Symlink: the path, then the target.
		{symlink("/a", ""), api.ErrPath}, {symlink("/a", "\x00"), api.ErrPath}, {symlink("/a", deep), api.ErrPathTooLong}, {symlink("/a", "b/"+long[1:]), api.ErrNameTooLong},
		{symlink("/", ""), api.ErrName}, {symlink("a", deep), api.ErrPath}, {symlink(long, ""), api.ErrNameTooLong}, {symlink("/a/..", "x"), api.ErrName},
	}
	for _, kind := range []int{api.CallLookup, api.CallStat, api.CallReadlink, api.CallReaddir} {
		for path, e := range map[string]api.Errno{"": api.ErrPath, "a": api.ErrPath, "a/": api.ErrPath, "/a\x00": api.ErrPath, long: api.ErrNameTooLong, deep: api.ErrPathTooLong, long + "\x00": api.ErrPath, deep + "\x00": api.ErrPathTooLong} {
			all = append(all, refused{api.Call{Kind: kind, Path: path, Other: "", Mode: 512}, e})
		}
	}
	for _, kind := range mutations() {
		for path, e := range map[string]api.Errno{"": api.ErrPath, "a": api.ErrPath, "/a\x00": api.ErrPath, long: api.ErrNameTooLong, deep: api.ErrPathTooLong, "/": api.ErrName, "///": api.ErrName, "/.": api.ErrName, "/a/..": api.ErrName, "/a/../": api.ErrName} {
			all = append(all, refused{api.Call{Kind: kind, Path: path, Other: "/b"}, e}, refused{api.Call{Kind: kind, Path: path, Other: "", Mode: -1}, e})
		}
	}
	for _, kind := range []int{api.CallCreate, api.CallMkdir, api.CallSetattr} {
		for _, mode := range []int{-1, api.MaxMode + 1, math.MinInt, math.MaxInt} {
			all = append(all, refused{api.Call{Kind: kind, Path: "/a", Mode: mode}, api.ErrArg}, refused{api.Call{Kind: kind, Path: "/a/b/", Other: "\x00", Mode: mode}, api.ErrArg})
		}
	}
	return all
}

// A refused call is answered at once, with the version of now, and changes nothing: neither what is told of the client, nor the next Seq.
func TestRefused(t *testing.T) {
	c := client(t, limits())
	for _, x := range refusals() {
		of(c.Start(x.call)).ends(t, fails(x.e, 0))
		if t.Failed() {
			t.Fatalf("at %+v", x)
		}
	}
	stands(t, c, 0, 0, false, 0)
	of(c.Start(lookup("/a"))).sends(t, ask(1, 0, look(1, "a")))

	c = knows(t, limits(), folder(1, "a", 2), folder(2, "b", 3))
	for _, x := range refusals() {
		of(c.Start(x.call)).ends(t, fails(x.e, 5))
	}
	stands(t, c, 1, 5, false, 0)
	holds(t, c, folder(1, "a", 2), folder(2, "b", 3))
	if out := c.Tick(); len(out) != 1 {
		t.Errorf("Tick: %v", out)
	}
	of(c.Start(lookup("/c"))).sends(t, ask(3, 1, look(1, "c")))
}

// What is refused of one kind may be right of another.
func TestNotRefused(t *testing.T) {
	long := strings.Repeat("x", api.MaxName)
	deep := strings.Repeat("/", api.MaxPath-1) + "a"
	for i, x := range []struct {
		call api.Call
		op   api.Op
	}{
		{api.Call{Kind: api.CallLookup, Path: "/" + long, Other: "\x00", Mode: -1}, look(1, long)},
		{stat(deep), look(1, "a")},
		{readlink("/a/.."), look(1, "a")},
		{readdir("/a/."), look(1, "a")},
		{readdir("/"), list(1)},
		{readdir("/.././"), list(1)},
		{api.Call{Kind: api.CallSync, Path: "\x00", Other: "\x00", Mode: -7}, syncs()},
		{create("/a", 0), api.Op{Kind: api.OpCreate, Dir: 1, Name: "a"}},
		{create("/a/", api.MaxMode), api.Op{Kind: api.OpCreate, Dir: 1, Name: "a", Mode: api.MaxMode}},
		{api.Call{Kind: api.CallMkdir, Path: deep, Mode: api.MaxMode, Other: "\x00"}, api.Op{Kind: api.OpMkdir, Dir: 1, Name: "a", Mode: api.MaxMode}},
		{api.Call{Kind: api.CallSetattr, Path: "//" + long + "//", Mode: 1}, api.Op{Kind: api.OpSetattr, Dir: 1, Name: long, Mode: 1}},
		{api.Call{Kind: api.CallSymlink, Path: "/a", Other: "..", Mode: -1}, api.Op{Kind: api.OpSymlink, Dir: 1, Name: "a", Target: ".."}},
		{symlink("/a", "/"), api.Op{Kind: api.OpSymlink, Dir: 1, Name: "a", Target: "/"}},
		{symlink("/a", strings.Repeat("/", api.MaxPath)), api.Op{Kind: api.OpSymlink, Dir: 1, Name: "a", Target: strings.Repeat("/", api.MaxPath)}},
		{api.Call{Kind: api.CallUnlink, Path: "/a", Other: "\x00", Mode: api.MaxMode + 1}, api.Op{Kind: api.OpUnlink, Dir: 1, Name: "a"}},
		{api.Call{Kind: api.CallRmdir, Path: "/./a", Other: "", Mode: -1}, api.Op{Kind: api.OpRmdir, Dir: 1, Name: "a"}},
		{api.Call{Kind: api.CallRename, Path: "/a", Other: "/../" + long + "/", Mode: -1}, api.Op{Kind: api.OpRename, Dir: 1, Name: "a", To: 1, New: long}},
		{rename("/a", "/a"), api.Op{Kind: api.OpRename, Dir: 1, Name: "a", To: 1, New: "a"}},
	} {
		c := client(t, limits())
		of(c.Start(x.call)).sends(t, ask(1, 0, x.op))
		if stands(t, c, 0, 0, true, 0); t.Failed() {
			t.Fatalf("at row %d", i)
		}
	}
}

// While a call goes on, any other one is told that, ahead of what is wrong with it; the one that goes on does so.
func TestBusy(t *testing.T) {
	c := knows(t, limits(), folder(1, "d", 2))
	of(c.Start(lookup("/d/f"))).sends(t, ask(2, 1, look(2, "f")))
	for _, x := range refusals() {
		of(c.Start(x.call)).ends(t, fails(api.ErrBusy, 5))
	}
	for kind := api.CallLookup; kind <= api.CallSync; kind++ {
		of(c.Start(api.Call{Kind: kind, Path: "/d", Other: "/e"})).ends(t, fails(api.ErrBusy, 5))
	}
	stands(t, c, 1, 5, true, 0)
	holds(t, c, folder(1, "d", 2))
	// A break in between: the answer's version is that of now.
	of(c.Take(broken(1+1i, 8))).sends(t)
	of(c.Start(lookup("/d"))).ends(t, fails(api.ErrBusy, 8))
	of(c.Take(reply(2, 1+1i, 9, api.OK, file(2, "f", 3)))).ends(t, finds(file(2, "f", 3).Node, 9))
	stands(t, c, 1+1i, 9, false, 0)
	of(c.Start(lookup("/d/f"))).ends(t, finds(file(2, "f", 3).Node, 9))
}
