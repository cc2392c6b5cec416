package audit_test

import (
	"math"
	"slices"
	"strconv"
	"testing"

	"vista/api"
	"vista/audit"
	"vista/tree"
)

func create(dir int, name string, mode int) api.Op {
	return api.Op{Kind: api.OpCreate, Dir: dir, Name: name, Mode: mode}
}

func mkdir(dir int, name string, mode int) api.Op {
	return api.Op{Kind: api.OpMkdir, Dir: dir, Name: name, Mode: mode}
}

func symlink(dir int, name, target string) api.Op {
	return api.Op{Kind: api.OpSymlink, Dir: dir, Name: name, Target: target}
}

func unlink(dir int, name string) api.Op {
	return api.Op{Kind: api.OpUnlink, Dir: dir, Name: name}
}

func rmdir(dir int, name string) api.Op {
	return api.Op{Kind: api.OpRmdir, Dir: dir, Name: name}
}

func rename(dir int, name string, to int, other string) api.Op {
	return api.Op{Kind: api.OpRename, Dir: dir, Name: name, To: to, New: other}
}

func setattr(dir int, name string, mode int) api.Op {
	return api.Op{Kind: api.OpSetattr, Dir: dir, Name: name, Mode: mode}
}

func folder(id, mode int) api.Node { return api.Node{ID: id, Kind: api.KindDir, Mode: mode} }

func file(id, mode int) api.Node { return api.Node{ID: id, Kind: api.KindFile, Mode: mode} }

func link(id int, target string) api.Node {
	return api.Node{ID: id, Kind: api.KindLink, Target: target}
}

func root() api.Node { return folder(api.Root, 0) }

// example is the history of the chapter's examples.
func example() []api.Op {
	return []api.Op{mkdir(1, "a", 7), create(2, "f", 1), unlink(2, "f")}
}

// at is the tree behind some ops.
func at(t *testing.T, history []api.Op, version int) *tree.Tree {
	t.Helper()
	x, e := audit.At(history, version)
	if x == nil || e != api.OK {
		t.Fatalf("At(%v, %d): %v, %d", history, version, x, e)
	}
	return x
}

// noTree fails if there is a tree, or another error.
func noTree(t *testing.T, history []api.Op, version int, want api.Errno) {
	t.Helper()
	if x, e := audit.At(history, version); x != nil || e != want {
		t.Errorf("At(%v, %d): %v, %d, not %d", history, version, x, e, want)
	}
}

// like fails if a tree is not as another one.
func like(t *testing.T, got, want *tree.Tree) {
	t.Helper()
	if got.Version() != want.Version() || got.Count() != want.Count() || got.Next() != want.Next() || !slices.Equal(got.Dump(), want.Dump()) {
		t.Errorf("version %d, next %d, %v, not version %d, next %d, %v", got.Version(), got.Next(), got.Dump(), want.Version(), want.Next(), want.Dump())
	}
}

// P17.1

func TestAtOfTheExample(t *testing.T) {
	a, f := api.Entry{Key: api.Key{Dir: 1, Name: "a"}, Node: folder(2, 7)}, api.Entry{Key: api.Key{Dir: 2, Name: "f"}, Node: file(3, 1)}
	for version, want := range [][]api.Entry{nil, {a}, {a, f}, {a}} {
		x := at(t, example(), version)
		if x.Version() != version || !slices.Equal(x.Dump(), want) || x.Next() != []int{2, 3, 4, 4}[version] {
			t.Errorf("At(%d): version %d, next %d, %v", version, x.Version(), x.Next(), x.Dump())
		}
	}
}

func TestAtOfNoOps(t *testing.T) {
	for _, history := range [][]api.Op{nil, {}, example(), {unlink(1, "a")}} {
		like(t, at(t, history, 0), tree.New())
	}
}

func TestVersionsThatAreNone(t *testing.T) {
	for _, history := range [][]api.Op{nil, {}, example(), example()[:1], {unlink(1, "a")}} {
		n := len(history)
		for _, version := range []int{-1, -2, n + 1, n + 2, 2*n + 9, math.MinInt, math.MinInt + 1, math.MaxInt, 1 << 32, -1 << 32, 1<<32 + n} {
			noTree(t, history, version, api.ErrArg)
		}
	}
}

// long is a history of many versions, in which the nodes never get many.
func long(versions int) []api.Op {
	history := []api.Op{mkdir(1, "d", 0)}
	for i := 1; len(history) < versions; i++ {
		history = append(history, create(1, "f"+strconv.Itoa(i), 0), rename(1, "f"+strconv.Itoa(i), 2, "f"), setattr(2, "f", i%(api.MaxMode+1)))
	}
	return history[:versions]
}

func TestEachVersionOfALongHistory(t *testing.T) {
	history, x := long(200), tree.New()
	for version := range len(history) + 1 {
		like(t, at(t, history, version), x)
		if version < len(history) {
			x.Apply(history[version])
		}
	}
	noTree(t, history, len(history)+1, api.ErrArg)
}

// An op that is refused, for whatever reason, has no tree behind it, and no tree is behind all that come later; the trees ahead of it are there.
func TestRefusedOps(t *testing.T) {
	for e, op := range map[api.Errno]api.Op{
		api.ErrStale:       create(9, "x", 0),
		api.ErrNotDir:      rmdir(2, "f"),
		api.ErrName:        mkdir(1, "", 0),
		api.ErrNameTooLong: mkdir(1, "abcdefghijklm", 0),
		api.ErrArg:         setattr(1, "a", api.MaxMode+1),
		api.ErrExist:       symlink(1, "a", "x"),
		api.ErrPath:        symlink(1, "x", ""),
		api.ErrPathTooLong: symlink(1, "x", string(make([]byte, 97))),
		api.ErrNotFound:    unlink(1, "x"),
		api.ErrIsDir:       unlink(1, "a"),
		api.ErrNotEmpty:    rmdir(1, "a"),
		api.ErrInside:      rename(1, "a", 2, "x"),
	} {
		history := []api.Op{mkdir(1, "a", 7), create(2, "f", 1), op, create(2, "g", 1), {}}
		for version := range 3 {
			like(t, at(t, history, version), at(t, history[:2], version))
		}
		for version := 3; version <= len(history); version++ {
			noTree(t, history, version, e)
		}
		noTree(t, history, -1, api.ErrArg)
		noTree(t, history, len(history)+1, api.ErrArg)
		noTree(t, []api.Op{rename(0, "x", 0, "x"), op}, 1, api.ErrStale)
	}
}

// The first op that is refused has the error, not a later one.
func TestTheFirstRefusedOp(t *testing.T) {
	history := []api.Op{mkdir(1, "a", 7), unlink(1, "a"), unlink(1, "b"), mkdir(1, "a", 7)}
	for version := 2; version <= 4; version++ {
		noTree(t, history, version, api.ErrIsDir)
	}
}

// Reads are no mutations, and no ops either that a tree does.
func TestOpsThatAreNoMutation(t *testing.T) {
	for _, kind := range []int{0, -1, api.OpLook, api.OpList, api.OpSync, api.OpAgain, api.OpSetattr + 1, math.MinInt, math.MaxInt} {
		history := []api.Op{mkdir(1, "a", 7), {Kind: kind, Dir: 1, Name: "a"}}
		like(t, at(t, history, 1), at(t, history[:1], 1))
		noTree(t, history, 2, api.ErrArg)
	}
}

func TestAFullTree(t *testing.T) {
	var history []api.Op
	for i := range api.MaxNodes {
		history = append(history, create(1, "f"+strconv.Itoa(i), 0))
	}
	if x := at(t, history, api.MaxNodes-1); x.Count() != api.MaxNodes {
		t.Errorf("%d nodes", x.Count())
	}
	noTree(t, history, api.MaxNodes, api.ErrRoom)
}

// P17.3, Same

func TestSame(t *testing.T) {
	full := api.Answer{Err: api.ErrNotFound, Node: link(4, "a/"), Names: []string{"a", "b"}, Version: 3}
	for i, c := range []struct {
		turn func(*api.Answer)
		want bool
	}{
		{func(*api.Answer) {}, true},
		{func(a *api.Answer) { a.Version++ }, true},
		{func(a *api.Answer) { a.Version = math.MinInt }, true},
		{func(a *api.Answer) { a.Err = api.OK }, false},
		{func(a *api.Answer) { a.Err++ }, false},
		{func(a *api.Answer) { a.Err += 1 << 32 }, false},
		{func(a *api.Answer) { a.Node = api.Node{} }, false},
		{func(a *api.Answer) { a.Node.ID++ }, false},
		{func(a *api.Answer) { a.Node.ID += 1 << 32 }, false},
		{func(a *api.Answer) { a.Node.Kind-- }, false},
		{func(a *api.Answer) { a.Node.Mode++ }, false},
		{func(a *api.Answer) { a.Node.Target = "a" }, false},
		{func(a *api.Answer) { a.Node.Target = "b/" }, false},
		{func(a *api.Answer) { a.Names = nil }, false},
		{func(a *api.Answer) { a.Names = []string{} }, false},
		{func(a *api.Answer) { a.Names = []string{"a"} }, false},
		{func(a *api.Answer) { a.Names = []string{"a", "b", "c"} }, false},
		{func(a *api.Answer) { a.Names = []string{"a", "b", ""} }, false},
		{func(a *api.Answer) { a.Names = []string{"b", "a"} }, false},
		{func(a *api.Answer) { a.Names = []string{"a", "B"} }, false},
		{func(a *api.Answer) { a.Names = []string{"ab"} }, false},
		{func(a *api.Answer) { a.Names = append(make([]string, 0, 9), "a", "b") }, true},
	} {
		other := full
		c.turn(&other)
		if audit.Same(full, other) != c.want || audit.Same(other, full) != c.want {
			t.Errorf("%d: Same(%+v, %+v) is not %v", i, full, other, c.want)
		}
		if !audit.Same(other, other) {
			t.Errorf("%d: %+v is not the same as itself", i, other)
		}
	}
}

// nil and an empty list are one.
func TestSameOfNoNames(t *testing.T) {
	none, empty := api.Answer{Node: file(2, 1), Version: 5}, api.Answer{Node: file(2, 1), Names: []string{}}
	if !audit.Same(none, empty) || !audit.Same(empty, none) || !audit.Same(none, none) || !audit.Same(api.Answer{}, api.Answer{}) {
		t.Error("no names are not the same as none")
	}
	for _, a := range []api.Answer{none, empty} {
		if b := (api.Answer{Node: file(2, 1), Names: []string{""}}); audit.Same(a, b) || audit.Same(b, a) {
			t.Error("no names are the same as an empty one")
		}
	}
}
