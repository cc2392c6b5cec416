package tree_test

import (
	"math"
	"slices"
	"strconv"
	"strings"
	"testing"

	"vista/api"
	"vista/tree"
)

// refuses fails if an op is not refused with an error, or leaves something behind.
func refuses(t *testing.T, x *tree.Tree, op api.Op, want api.Errno) {
	t.Helper()
	version, next, was := x.Version(), x.Next(), x.Dump()
	if l, k, e := x.Apply(op); e != want || len(l) != 0 || len(k) != 0 {
		t.Errorf("%v: %v, %v, %d, not %d", op, l, k, e, want)
	}
	tells(t, "a refused op", x, version, next, was)
}

// answers fails if an op is not done, or answers other entries than these.
func answers(t *testing.T, x *tree.Tree, op api.Op, want ...api.Entry) {
	t.Helper()
	version := x.Version()
	if l, k, e := x.Apply(op); e != api.OK || !slices.Equal(l, want) || !slices.Equal(k, keysOf(want)) {
		t.Errorf("%v: %v, %v, %d, not %v", op, l, k, e, want)
	}
	if x.Version() != version+1 {
		t.Errorf("%v: version %d behind %d", op, x.Version(), version)
	}
}

// with is a list with entries turned: those of the keys are what they say.
func with(entries []api.Entry, turned ...api.Entry) []api.Entry {
	var all []api.Entry
	for _, entry := range entries {
		if !slices.Contains(keysOf(turned), entry.Key) {
			all = append(all, entry)
		}
	}
	for _, entry := range turned {
		if !entry.Neg {
			all = append(all, entry)
		}
	}
	slices.SortFunc(all, func(a, b api.Entry) int {
		if a.Key.Dir != b.Key.Dir {
			return a.Key.Dir - b.Key.Dir
		}
		return strings.Compare(a.Key.Name, b.Key.Name)
	})
	return all
}

// wrongModes are modes that none is.
func wrongModes() []int {
	return []int{-1, -2, api.MaxMode + 1, 2*api.MaxMode + 1, 1 << 31, 1 << 32, math.MaxInt, math.MinInt, math.MinInt + 1}
}

// wrongTargets are targets that layer 2 refuses.
func wrongTargets() map[string]api.Errno {
	return map[string]api.Errno{
		"":                              api.ErrPath,
		"\x00":                          api.ErrPath,
		"a/\x00/b":                      api.ErrPath,
		strings.Repeat("a", 13):         api.ErrNameTooLong,
		"/a/" + strings.Repeat("a", 13): api.ErrNameTooLong,
		strings.Repeat("a/", 48) + "a":  api.ErrPathTooLong,
		strings.Repeat("\x00", 97):      api.ErrPathTooLong,
	}
}

// P5.3

func TestCreateAndMkdir(t *testing.T) {
	for kind, made := range map[int]int{api.OpCreate: api.KindFile, api.OpMkdir: api.KindDir} {
		for _, mode := range []int{0, 1, 420, api.MaxMode - 1, api.MaxMode} {
			for _, dir := range []int{1, 2, 5, 7} {
				x := grown(t)
				want := is(dir, "n", 10, made, mode, "")
				answers(t, x, api.Op{Kind: kind, Dir: dir, Name: "n", Mode: mode}, want)
				tells(t, "made", x, 9, 11, with(grownEntries(), want))
			}
		}
	}
}

func TestANewDirectoryIsEmpty(t *testing.T) {
	x := grown(t)
	does(t, x, mkdir(5, "n", 0))
	if l, e := x.List(10); e != api.OK || len(l) != 0 {
		t.Errorf("List: %v, %d", l, e)
	}
	does(t, x, create(10, "o", 0))
	if l, e := x.List(10); e != api.OK || !slices.Equal(l, []api.Entry{is(10, "o", 11, api.KindFile, 0, "")}) {
		t.Errorf("List: %v, %d", l, e)
	}
}

func TestSymlink(t *testing.T) {
	for _, target := range []string{"a", "/", "//", ".", "..", "../x/", "/a/b", "n", strings.Repeat("a/", 48), strings.Repeat("x", 12), "\xff"} {
		x := grown(t)
		want := is(2, "n", 10, api.KindLink, 0, target)
		answers(t, x, symlink(2, "n", target), want)
		tells(t, "made", x, 9, 11, with(grownEntries(), want))
	}
}

func TestOddNamesAreTaken(t *testing.T) {
	for _, name := range oddNames() {
		x := tree.New()
		answers(t, x, mkdir(1, name, 0), is(1, name, 2, api.KindDir, 0, ""))
		answers(t, x, symlink(2, name, "x"), is(2, name, 3, api.KindLink, 0, "x"))
		answers(t, x, create(1, "+", 0), is(1, "+", 4, api.KindFile, 0, ""))
		answers(t, x, setattr(1, name, 4), is(1, name, 2, api.KindDir, 4, ""))
		answers(t, x, unlink(2, name), isNot(2, name))
		answers(t, x, rename(1, "+", 2, name), isNot(1, "+"), is(2, name, 4, api.KindFile, 0, ""))
		answers(t, x, unlink(2, name), isNot(2, name))
		answers(t, x, rmdir(1, name), isNot(1, name))
		tells(t, "made and gone", x, 8, 5, nil)
	}
}

func TestUnlink(t *testing.T) {
	for _, key := range []api.Key{{Dir: 1, Name: "h"}, {Dir: 1, Name: "l"}, {Dir: 2, Name: "f"}, {Dir: 7, Name: "g"}} {
		x := grown(t)
		want := isNot(key.Dir, key.Name)
		answers(t, x, unlink(key.Dir, key.Name), want)
		tells(t, "gone", x, 9, 10, with(grownEntries(), want))
		refuses(t, x, unlink(key.Dir, key.Name), api.ErrNotFound)
	}
}

func TestRmdir(t *testing.T) {
	x := grown(t)
	answers(t, x, rmdir(1, "e"), isNot(1, "e"))
	tells(t, "gone", x, 9, 10, with(grownEntries(), isNot(1, "e")))
	refuses(t, x, rmdir(1, "e"), api.ErrNotFound)
	refuses(t, x, rmdir(6, "c"), api.ErrNotEmpty)
	does(t, x, unlink(7, "g"))
	answers(t, x, rmdir(6, "c"), isNot(6, "c"))
	answers(t, x, rmdir(2, "b"), isNot(2, "b"))
	tells(t, "gone", x, 12, 10, with(grownEntries(), isNot(1, "e"), isNot(7, "g"), isNot(6, "c"), isNot(2, "b")))
}

func TestSetattr(t *testing.T) {
	for _, mode := range []int{0, 1, 7, api.MaxMode - 1, api.MaxMode} {
		for _, want := range grownEntries() {
			x := grown(t)
			want.Node.Mode = mode
			answers(t, x, setattr(want.Key.Dir, want.Key.Name, mode), want)
			tells(t, "set", x, 9, 10, with(grownEntries(), want))
		}
	}
}

// refused is an op with the error that it has in grown.
type refused struct {
	op api.Op
	e  api.Errno
}

// Of each row the errors stand in the order of the table, and each op has all errors of its row that stand behind its own, as far as they can be together.
func TestErrorsOfEachRowInTheirOrder(t *testing.T) {
	x := grown(t)
	for _, c := range []refused{
		{create(99, "", -1), api.ErrStale},
		{create(3, "", -1), api.ErrNotDir},
		{create(1, "", -1), api.ErrName},
		{create(1, "a", -1), api.ErrArg},
		{create(1, "a", 0), api.ErrExist},
		{create(1, "h", 0), api.ErrExist},
		{create(1, "l", 0), api.ErrExist},
		{mkdir(99, "", 512), api.ErrStale},
		{mkdir(4, "", 512), api.ErrNotDir},
		{mkdir(1, "", 512), api.ErrName},
		{mkdir(1, "a", 512), api.ErrArg},
		{mkdir(1, "a", 0), api.ErrExist},
		{mkdir(1, "e", 0), api.ErrExist},
		{mkdir(1, "h", 0), api.ErrExist},
		{symlink(99, "", ""), api.ErrStale},
		{symlink(3, "", ""), api.ErrNotDir},
		{symlink(1, "", ""), api.ErrName},
		{symlink(1, "a", ""), api.ErrPath},
		{symlink(1, "l", "x"), api.ErrExist},
		{unlink(99, ""), api.ErrStale},
		{unlink(3, ""), api.ErrNotDir},
		{unlink(1, ""), api.ErrName},
		{unlink(1, "n"), api.ErrNotFound},
		{unlink(2, "a"), api.ErrNotFound},
		{unlink(1, "a"), api.ErrIsDir},
		{unlink(1, "e"), api.ErrIsDir},
		{rmdir(99, ""), api.ErrStale},
		{rmdir(3, ""), api.ErrNotDir},
		{rmdir(1, ""), api.ErrName},
		{rmdir(1, "n"), api.ErrNotFound},
		{rmdir(1, "h"), api.ErrNotDir},
		{rmdir(1, "l"), api.ErrNotDir},
		{rmdir(1, "a"), api.ErrNotEmpty},
		{rmdir(2, "b"), api.ErrNotEmpty},
		{setattr(99, "", -1), api.ErrStale},
		{setattr(3, "", -1), api.ErrNotDir},
		{setattr(1, "", -1), api.ErrName},
		{setattr(1, "n", -1), api.ErrArg},
		{setattr(1, "n", 512), api.ErrArg},
		{setattr(1, "n", 0), api.ErrNotFound},
	} {
		refuses(t, x, c.op, c.e)
	}
}

func TestErrorsOfRenameInTheirOrder(t *testing.T) {
	x := grown(t)
	for _, c := range []refused{
		{rename(99, "", 3, ""), api.ErrStale},
		{rename(3, "", 99, ""), api.ErrNotDir},
		{rename(1, "", 99, ""), api.ErrName},
		{rename(1, strings.Repeat("x", 13), 99, ""), api.ErrNameTooLong},
		{rename(1, "n", 99, ""), api.ErrStale},
		{rename(1, "n", 3, ""), api.ErrNotDir},
		{rename(1, "n", 2, ""), api.ErrName},
		{rename(1, "a", 2, ""), api.ErrName},
		{rename(1, "n", 2, strings.Repeat("x", 13)), api.ErrNameTooLong},
		{rename(1, "n", 1, "n"), api.ErrNotFound},
		{rename(1, "n", 2, "f"), api.ErrNotFound},
		{rename(5, "a", 1, "a"), api.ErrNotFound},
		{rename(1, "a", 2, "f"), api.ErrInside},
		{rename(1, "a", 2, "b"), api.ErrInside},
		{rename(1, "a", 2, "n"), api.ErrInside},
		{rename(1, "a", 2, "a"), api.ErrInside},
		{rename(1, "a", 6, "n"), api.ErrInside},
		{rename(1, "a", 7, "g"), api.ErrInside},
		{rename(2, "b", 7, "n"), api.ErrInside},
		{rename(1, "a", 1, "h"), api.ErrNotDir},
		{rename(1, "e", 1, "l"), api.ErrNotDir},
		{rename(2, "b", 2, "f"), api.ErrNotDir},
		{rename(6, "c", 1, "h"), api.ErrNotDir},
		{rename(1, "h", 1, "a"), api.ErrIsDir},
		{rename(1, "h", 1, "e"), api.ErrIsDir},
		{rename(1, "l", 2, "b"), api.ErrIsDir},
		{rename(7, "g", 6, "c"), api.ErrIsDir},
		{rename(1, "e", 1, "a"), api.ErrNotEmpty},
		{rename(1, "e", 6, "c"), api.ErrNotEmpty},
		{rename(2, "b", 1, "a"), api.ErrNotEmpty},
		{rename(6, "c", 2, "b"), api.ErrNotEmpty},
	} {
		refuses(t, x, c.op, c.e)
	}
}

func TestWrongNames(t *testing.T) {
	x := grown(t)
	for name, want := range wrongNames() {
		for kind := api.OpCreate; kind <= api.OpSetattr; kind++ {
			refuses(t, x, api.Op{Kind: kind, Dir: 1, Name: name, To: 2, New: "n", Mode: 1, Target: "x"}, want)
		}
		refuses(t, x, rename(1, "h", 2, name), want)
		refuses(t, x, rename(1, "n", 2, name), want)
	}
}

func TestWrongDirectoriesOfTo(t *testing.T) {
	x := grown(t)
	for dir, want := range notDirectories() {
		refuses(t, x, rename(1, "h", dir, "n"), want)
		refuses(t, x, rename(1, "a", dir, ""), want)
	}
}

func TestWrongModes(t *testing.T) {
	x := grown(t)
	for _, mode := range wrongModes() {
		for _, name := range []string{"n", "a", "h", "l"} {
			refuses(t, x, create(1, name, mode), api.ErrArg)
			refuses(t, x, mkdir(1, name, mode), api.ErrArg)
			refuses(t, x, setattr(1, name, mode), api.ErrArg)
		}
	}
}

func TestWrongTargets(t *testing.T) {
	x := grown(t)
	for target, want := range wrongTargets() {
		refuses(t, x, symlink(1, "n", target), want)
		refuses(t, x, symlink(1, "l", target), want)
	}
}

func TestKindsThatAreNoMutation(t *testing.T) {
	x := grown(t)
	for _, kind := range []int{0, api.OpLook, api.OpList, api.OpSync, api.OpAgain, api.OpSetattr + 1, -1, -5, 99, 1<<32 + api.OpCreate, math.MaxInt, math.MinInt} {
		refuses(t, x, api.Op{Kind: kind, Dir: 1, Name: "n", To: 2, New: "m", Mode: 1, Target: "x"}, api.ErrArg)
		// That it is no mutation is told ahead of all else.
		refuses(t, x, api.Op{Kind: kind, Dir: 99, Name: "", To: 99, Mode: -1}, api.ErrArg)
	}
}

func TestFieldsThatAKindDoesNotNameAreNotLookedAt(t *testing.T) {
	for _, c := range []struct {
		op   api.Op
		want []api.Entry
	}{
		{api.Op{Kind: api.OpCreate, Dir: 1, Name: "n", Mode: 3, To: 99, New: "/", Target: "\x00"}, []api.Entry{is(1, "n", 10, api.KindFile, 3, "")}},
		{api.Op{Kind: api.OpMkdir, Dir: 1, Name: "n", Mode: 3, To: 99, New: "/", Target: "x"}, []api.Entry{is(1, "n", 10, api.KindDir, 3, "")}},
		{api.Op{Kind: api.OpSymlink, Dir: 1, Name: "n", Mode: 3, To: 99, New: "/", Target: "x"}, []api.Entry{is(1, "n", 10, api.KindLink, 0, "x")}},
		{api.Op{Kind: api.OpSymlink, Dir: 1, Name: "n", Mode: -3, To: 3, New: "", Target: "x"}, []api.Entry{is(1, "n", 10, api.KindLink, 0, "x")}},
		{api.Op{Kind: api.OpUnlink, Dir: 1, Name: "h", Mode: -3, To: 99, New: "/", Target: "\x00"}, []api.Entry{isNot(1, "h")}},
		{api.Op{Kind: api.OpRmdir, Dir: 1, Name: "e", Mode: -3, To: 99, New: "/", Target: "\x00"}, []api.Entry{isNot(1, "e")}},
		{api.Op{Kind: api.OpRename, Dir: 1, Name: "h", Mode: -3, To: 1, New: "n", Target: "\x00"}, []api.Entry{isNot(1, "h"), is(1, "n", 9, api.KindFile, 9, "")}},
		{api.Op{Kind: api.OpRename, Dir: 1, Name: "h", Mode: 5, To: 1, New: "n", Target: "x"}, []api.Entry{isNot(1, "h"), is(1, "n", 9, api.KindFile, 9, "")}},
		{api.Op{Kind: api.OpSetattr, Dir: 1, Name: "l", Mode: 3, To: 99, New: "/", Target: "\x00"}, []api.Entry{is(1, "l", 4, api.KindLink, 3, "a/f")}},
		{api.Op{Kind: api.OpSetattr, Dir: 1, Name: "h", Mode: 3, To: 99, New: "/", Target: "x"}, []api.Entry{is(1, "h", 9, api.KindFile, 3, "")}},
	} {
		x := grown(t)
		answers(t, x, c.op, c.want...)
		tells(t, "done", x, 9, 10+grew(c.op), with(grownEntries(), c.want...))
	}
}

// grew is how many ids an op gives.
func grew(op api.Op) int {
	if op.Kind <= api.OpSymlink {
		return 1
	}
	return 0
}

// full is a tree of n nodes: an empty directory 2, and files 3 on.
func full(t *testing.T, n int) *tree.Tree {
	t.Helper()
	x := tree.New()
	does(t, x, mkdir(1, "d", 0))
	for id := 3; id <= n; id++ {
		does(t, x, create(1, "f"+strconv.Itoa(id), 0))
	}
	if x.Count() != n {
		t.Fatalf("%d nodes, not %d", x.Count(), n)
	}
	return x
}

func TestRoom(t *testing.T) {
	for _, op := range []api.Op{create(1, "n", 0), mkdir(2, "n", 0), symlink(1, "n", "x")} {
		x := full(t, api.MaxNodes-1)
		does(t, x, op)
		op.Name = "o"
		refuses(t, x, op, api.ErrRoom)
		op.Dir = 2
		refuses(t, x, op, api.ErrRoom)
	}
}

func TestErrorsAheadOfRoom(t *testing.T) {
	x := full(t, api.MaxNodes)
	for _, c := range []refused{
		{create(99, "n", 0), api.ErrStale},
		{create(3, "n", 0), api.ErrNotDir},
		{create(1, "", 0), api.ErrName},
		{create(1, "n", 512), api.ErrArg},
		{create(1, "d", 0), api.ErrExist},
		{create(1, "n", 0), api.ErrRoom},
		{mkdir(1, "n", -1), api.ErrArg},
		{mkdir(1, "d", 0), api.ErrExist},
		{mkdir(1, "n", 0), api.ErrRoom},
		{symlink(1, "n", ""), api.ErrPath},
		{symlink(1, "d", "x"), api.ErrExist},
		{symlink(1, "n", "x"), api.ErrRoom},
	} {
		refuses(t, x, c.op, c.e)
	}
}

func TestOtherMutationsOfAFullTree(t *testing.T) {
	x := full(t, api.MaxNodes)
	answers(t, x, setattr(1, "d", 3), is(1, "d", 2, api.KindDir, 3, ""))
	answers(t, x, rename(1, "f3", 2, "f3"), isNot(1, "f3"), is(2, "f3", 3, api.KindFile, 0, ""))
	refuses(t, x, create(1, "f3", 0), api.ErrRoom)
	answers(t, x, rename(2, "f3", 1, "f4"), is(1, "f4", 3, api.KindFile, 0, ""), isNot(2, "f3"))
	answers(t, x, create(1, "f3", 0), is(1, "f3", 49, api.KindFile, 0, ""))
	refuses(t, x, create(1, "n", 0), api.ErrRoom)
	answers(t, x, unlink(1, "f5"), isNot(1, "f5"))
	answers(t, x, mkdir(2, "n", 0), is(2, "n", 50, api.KindDir, 0, ""))
	refuses(t, x, symlink(1, "n", "x"), api.ErrRoom)
	answers(t, x, rmdir(2, "n"), isNot(2, "n"))
	answers(t, x, symlink(2, "n", "x"), is(2, "n", 51, api.KindLink, 0, "x"))
}

func TestRenameOntoTheVeryNode(t *testing.T) {
	for i, entry := range grownEntries() {
		x := grown(t)
		key := entry.Key
		for range 2 {
			answers(t, x, rename(key.Dir, key.Name, key.Dir, key.Name), entry)
		}
		tells(t, "the same key twice "+strconv.Itoa(i), x, 10, 10, grownEntries())
	}
}

func TestRenameKeysRise(t *testing.T) {
	for _, c := range []struct {
		op   api.Op
		want []api.Entry
	}{
		{rename(1, "h", 1, "g"), []api.Entry{is(1, "g", 9, api.KindFile, 9, ""), isNot(1, "h")}},
		{rename(1, "h", 1, "i"), []api.Entry{isNot(1, "h"), is(1, "i", 9, api.KindFile, 9, "")}},
		{rename(1, "h", 1, "hh"), []api.Entry{isNot(1, "h"), is(1, "hh", 9, api.KindFile, 9, "")}},
		{rename(1, "h", 1, "H"), []api.Entry{is(1, "H", 9, api.KindFile, 9, ""), isNot(1, "h")}},
		{rename(1, "h", 1, "\xff"), []api.Entry{isNot(1, "h"), is(1, "\xff", 9, api.KindFile, 9, "")}},
		{rename(1, "h", 2, "a"), []api.Entry{isNot(1, "h"), is(2, "a", 9, api.KindFile, 9, "")}},
		{rename(7, "g", 2, "z"), []api.Entry{is(2, "z", 8, api.KindFile, 0, ""), isNot(7, "g")}},
		{rename(7, "g", 1, "g"), []api.Entry{is(1, "g", 8, api.KindFile, 0, ""), isNot(7, "g")}},
		{rename(6, "c", 5, "c"), []api.Entry{is(5, "c", 7, api.KindDir, 5, ""), isNot(6, "c")}},
		{rename(1, "l", 7, "l"), []api.Entry{isNot(1, "l"), is(7, "l", 4, api.KindLink, 0, "a/f")}},
	} {
		x := grown(t)
		answers(t, x, c.op, c.want...)
		tells(t, "renamed", x, 9, 10, with(grownEntries(), c.want...))
	}
}

func TestRenameBetweenDirectoriesOfTwoDigits(t *testing.T) {
	x := tree.New()
	for i := 2; i <= 12; i++ {
		does(t, x, mkdir(1, "d"+strconv.Itoa(i), 0))
	}
	does(t, x, create(9, "f", 1))
	answers(t, x, rename(9, "f", 10, "f"), isNot(9, "f"), is(10, "f", 13, api.KindFile, 1, ""))
	answers(t, x, rename(10, "f", 2, "f"), is(2, "f", 13, api.KindFile, 1, ""), isNot(10, "f"))
}

func TestRenameOntoWhatMakesWay(t *testing.T) {
	for _, c := range []struct {
		op   api.Op
		lost int
		want []api.Entry
	}{
		{rename(1, "h", 2, "f"), 3, []api.Entry{isNot(1, "h"), is(2, "f", 9, api.KindFile, 9, "")}},
		{rename(1, "h", 1, "l"), 4, []api.Entry{isNot(1, "h"), is(1, "l", 9, api.KindFile, 9, "")}},
		{rename(1, "l", 1, "h"), 9, []api.Entry{is(1, "h", 4, api.KindLink, 0, "a/f"), isNot(1, "l")}},
		{rename(7, "g", 2, "f"), 3, []api.Entry{is(2, "f", 8, api.KindFile, 0, ""), isNot(7, "g")}},
		{rename(1, "a", 1, "e"), 5, []api.Entry{isNot(1, "a"), is(1, "e", 2, api.KindDir, 7, "")}},
		{rename(2, "b", 1, "e"), 5, []api.Entry{is(1, "e", 6, api.KindDir, 6, ""), isNot(2, "b")}},
	} {
		x := grown(t)
		answers(t, x, c.op, c.want...)
		tells(t, "renamed", x, 9, 10, with(grownEntries(), c.want...))
		if _, e := x.Find(c.lost); e != api.ErrStale {
			t.Errorf("%v: Find(%d): %d", c.op, c.lost, e)
		}
	}
}

// deep is a chain of directories: 2 lies in the root, each other one in that ahead of it.
func deep(t *testing.T, n int) *tree.Tree {
	t.Helper()
	x := tree.New()
	for id := 2; id <= n; id++ {
		does(t, x, mkdir(id-1, "d", 0))
	}
	return x
}

func TestRenameIntoAboveAtAndBelow(t *testing.T) {
	const last = api.MaxNodes - 1
	for id := 2; id <= last; id++ {
		for to := 1; to <= last; to++ {
			x := deep(t, last)
			node := is(to, "n", id, api.KindDir, 0, "")
			switch {
			case to >= id:
				refuses(t, x, rename(id-1, "d", to, "n"), api.ErrInside)
				// What stands there already changes nothing about it.
				refuses(t, x, rename(id-1, "d", to, "d"), api.ErrInside)
			case to == id-1:
				answers(t, x, rename(id-1, "d", to, "n"), isNot(to, "d"), node)
			default:
				answers(t, x, rename(id-1, "d", to, "n"), node, isNot(id-1, "d"))
				// A directory that has names does not make way, not even for one that lies in it.
				does(t, x, rename(to, "n", id-1, "d"))
				refuses(t, x, rename(id-1, "d", to, "d"), api.ErrNotEmpty)
			}
		}
	}
}

func TestFilesAndLinksGoAnywhere(t *testing.T) {
	for _, op := range []api.Op{create(30, "x", 1), symlink(30, "x", "d/d")} {
		for to := 1; to < api.MaxNodes-1; to++ {
			x := deep(t, api.MaxNodes-1)
			does(t, x, op)
			if l, k, e := x.Apply(rename(30, "x", to, "y")); e != api.OK || len(l) != 2 || len(k) != 2 {
				t.Errorf("to %d: %v, %v, %d", to, l, k, e)
			}
			if got, e := x.Find(api.MaxNodes); e != api.OK || got.Key != (api.Key{Dir: to, Name: "y"}) {
				t.Errorf("to %d: %v, %d", to, got, e)
			}
		}
	}
}

func TestRenameTakesAlongWhatLiesBelow(t *testing.T) {
	x := grown(t)
	does(t, x, rename(2, "b", 5, "bb"))
	refuses(t, x, rename(1, "e", 7, "n"), api.ErrInside)
	answers(t, x, rename(1, "a", 7, "n"), isNot(1, "a"), is(7, "n", 2, api.KindDir, 7, ""))
	refuses(t, x, rename(5, "bb", 2, "n"), api.ErrInside)
	tells(t, "renamed", x, 10, 10, []api.Entry{
		is(1, "e", 5, api.KindDir, 0, ""),
		is(1, "h", 9, api.KindFile, 9, ""),
		is(1, "l", 4, api.KindLink, 0, "a/f"),
		is(2, "f", 3, api.KindFile, 511, ""),
		is(5, "bb", 6, api.KindDir, 6, ""),
		is(6, "c", 7, api.KindDir, 5, ""),
		is(7, "g", 8, api.KindFile, 0, ""),
		is(7, "n", 2, api.KindDir, 7, ""),
	})
}

func TestVersionCountsWhatWasDone(t *testing.T) {
	x := tree.New()
	for i, c := range []struct {
		op      api.Op
		version int
	}{
		{mkdir(1, "a", 0), 1},
		{mkdir(1, "a", 0), 1},
		{setattr(1, "a", 0), 2},
		{rename(1, "a", 1, "a"), 3},
		{rename(1, "a", 2, "a"), 3},
		{api.Op{Kind: api.OpSync}, 3},
		{symlink(2, "l", "l"), 4},
		{rmdir(1, "a"), 4},
		{unlink(2, "l"), 5},
		{rmdir(1, "a"), 6},
		{rmdir(1, "a"), 6},
	} {
		x.Apply(c.op)
		if x.Version() != c.version {
			t.Errorf("%d: version %d, not %d", i, x.Version(), c.version)
		}
	}
}

func TestExampleOfTheChapter(t *testing.T) {
	x := tree.New()
	two, three := is(1, "a", 2, api.KindDir, 7, ""), is(2, "b", 3, api.KindDir, 5, "")
	answers(t, x, mkdir(1, "a", 7), two)
	answers(t, x, mkdir(2, "b", 5), three)
	refuses(t, x, rename(1, "a", 3, "c"), api.ErrInside)
	answers(t, x, rename(2, "b", 1, "b"), is(1, "b", 3, api.KindDir, 5, ""), isNot(2, "b"))
	answers(t, x, rename(1, "b", 1, "a"), is(1, "a", 3, api.KindDir, 5, ""), isNot(1, "b"))
	if got, e := x.Look(2, "x"); e != api.ErrStale || got != (api.Entry{}) {
		t.Errorf("Look(2, x): %v, %d", got, e)
	}
	tells(t, "the example", x, 4, 4, []api.Entry{is(1, "a", 3, api.KindDir, 5, "")})
}
