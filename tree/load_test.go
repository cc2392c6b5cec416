package tree_test

import (
	"math"
	"slices"
	"strconv"
	"strings"
	"testing"

	"vista/api"
	"vista/tree"
)

// loaded is the tree of entries that must be taken.
func loaded(t *testing.T, what string, entries []api.Entry, version, next int) *tree.Tree {
	t.Helper()
	x, e := tree.Load(entries, version, next)
	if x == nil || e != api.OK {
		t.Fatalf("%s: Load: %v, %d", what, x, e)
	}
	tells(t, what, x, version, next, entries)
	return x
}

// notLoaded fails if entries are taken.
func notLoaded(t *testing.T, what string, entries []api.Entry, version, next int) {
	t.Helper()
	if x, e := tree.Load(entries, version, next); x != nil || e != api.ErrArg {
		t.Errorf("%s: Load: %v, %d", what, x, e)
	}
}

// alike fails if two trees answer something else.
func alike(t *testing.T, what string, x, y *tree.Tree) {
	t.Helper()
	tells(t, what, y, x.Version(), x.Next(), x.Dump())
	for id := -1; id <= x.Next(); id++ {
		a, e := x.Find(id)
		if b, f := y.Find(id); a != b || e != f {
			t.Errorf("%s: Find(%d): %v, %d and %v, %d", what, id, a, e, b, f)
		}
		l, e := x.List(id)
		if m, f := y.List(id); !slices.Equal(l, m) || e != f {
			t.Errorf("%s: List(%d): %v, %d and %v, %d", what, id, l, e, m, f)
		}
		for _, name := range []string{"a", "b", "f", "n", ""} {
			a, e := x.Look(id, name)
			if b, f := y.Look(id, name); a != b || e != f {
				t.Errorf("%s: Look(%d, %q): %v, %d and %v, %d", what, id, name, a, e, b, f)
			}
		}
	}
}

// later are ops that find most of grown's nodes in some way.
func later() []api.Op {
	return []api.Op{
		create(5, "n", 1), rename(1, "e", 6, "n"), rename(1, "a", 5, "n"), unlink(2, "f"), rename(6, "c", 1, "e"),
		rmdir(1, "e"), setattr(1, "l", 3), symlink(7, "l", "x"), rename(1, "h", 7, "g"), mkdir(1, "a", 1), unlink(5, "n"), mkdir(1, "b", 1),
	}
}

// goOn applies the same ops to two trees, and fails if they answer something else.
func goOn(t *testing.T, what string, x, y *tree.Tree, ops []api.Op) {
	t.Helper()
	for _, op := range ops {
		l, k, e := x.Apply(op)
		m, n, f := y.Apply(op)
		if e != f || !slices.Equal(l, m) || !slices.Equal(k, n) {
			t.Errorf("%s: %v: %v, %v, %d and %v, %v, %d", what, op, l, k, e, m, n, f)
		}
		alike(t, what, x, y)
	}
}

// P5.4

func TestCopyAnswersTheSame(t *testing.T) {
	alike(t, "a copy of the root alone", tree.New(), tree.New().Copy())
	x := grown(t)
	y := x.Copy()
	alike(t, "a copy", x, y)
	goOn(t, "a copy", x, y, later())
	alike(t, "a copy of a copy", x, y.Copy())
	alike(t, "a copy of a full tree", full(t, api.MaxNodes), full(t, api.MaxNodes).Copy())
}

func TestCopiesHaveNothingInCommon(t *testing.T) {
	for _, op := range append(later(), api.Op{Kind: api.OpUnlink, Dir: 1, Name: "h"}, rmdir(1, "e"), create(1, "0", 0)) {
		x := grown(t)
		y := x.Copy()
		z := y.Copy()
		y.Apply(op)
		tells(t, "the first tree", x, 8, 10, grownEntries())
		tells(t, "the copy's copy", z, 8, 10, grownEntries())
		y = x.Copy()
		x.Apply(op)
		tells(t, "the copy", y, 8, 10, grownEntries())
	}
}

func TestCopiesGoTheirOwnWays(t *testing.T) {
	x := grown(t)
	y := x.Copy()
	// Both have room behind their entries: none may write into the other's.
	does(t, x, create(1, "x", 1), unlink(1, "h"))
	does(t, y, create(1, "y", 2), mkdir(1, "z", 3))
	tells(t, "the one", x, 10, 11, with(grownEntries(), is(1, "x", 10, api.KindFile, 1, ""), isNot(1, "h")))
	tells(t, "the other", y, 10, 12, with(grownEntries(), is(1, "y", 10, api.KindFile, 2, ""), is(1, "z", 11, api.KindDir, 3, "")))
}

func TestLoadOfADump(t *testing.T) {
	x := grown(t)
	y := loaded(t, "grown", x.Dump(), x.Version(), x.Next())
	alike(t, "grown", x, y)
	goOn(t, "grown", x, y, later())
	alike(t, "grown on", x, loaded(t, "grown on", x.Dump(), x.Version(), x.Next()))
}

func TestLoadOfNothing(t *testing.T) {
	alike(t, "nil", tree.New(), loaded(t, "nil", nil, 0, 2))
	x := loaded(t, "an empty list", []api.Entry{}, 7, 40)
	answers(t, x, mkdir(1, "a", 0), is(1, "a", 40, api.KindDir, 0, ""))
	answers(t, x, create(40, "b", 0), is(40, "b", 41, api.KindFile, 0, ""))
	tells(t, "grown", x, 9, 42, []api.Entry{is(1, "a", 40, api.KindDir, 0, ""), is(40, "b", 41, api.KindFile, 0, "")})
}

func TestLoadGoesOnWithNext(t *testing.T) {
	for _, next := range []int{10, 11, 12, 99, 1 << 40} {
		x := loaded(t, "grown", grownEntries(), 3, next)
		answers(t, x, create(5, "n", 1), is(5, "n", next, api.KindFile, 1, ""))
		tells(t, "grown on", x, 4, next+1, with(grownEntries(), is(5, "n", next, api.KindFile, 1, "")))
	}
}

func TestLoadTakesWhatADumpCouldTell(t *testing.T) {
	for what, entries := range map[string][]api.Entry{
		"modes at their edges":             {is(1, "a", 2, api.KindDir, 0, ""), is(1, "b", 3, api.KindFile, api.MaxMode, "")},
		"a link's mode that was set":       {is(1, "a", 2, api.KindLink, api.MaxMode, "x")},
		"a link's longest target":          {is(1, "a", 2, api.KindLink, 0, strings.Repeat("a/", 48))},
		"a longest name":                   {is(1, strings.Repeat("x", 12), 2, api.KindLink, 0, "/")},
		"ids that were given and are gone": {is(1, "a", 7, api.KindDir, 0, ""), is(7, "a", 4, api.KindDir, 0, "")},
		"the greatest id":                  {is(1, "a", 19, api.KindFile, 0, "")},
		"a directory ahead of its own key": {is(1, "z", 5, api.KindDir, 0, ""), is(2, "f", 4, api.KindFile, 0, ""), is(3, "d", 2, api.KindDir, 0, ""), is(5, "d", 3, api.KindDir, 0, "")},
		"digits that rise otherwise":       {is(1, "a", 9, api.KindDir, 0, ""), is(1, "b", 10, api.KindDir, 0, ""), is(9, "z", 12, api.KindFile, 0, ""), is(10, "a", 11, api.KindFile, 0, "")},
	} {
		loaded(t, what, entries, 0, 20)
	}
	var odd []api.Entry
	for i, name := range oddNames() {
		odd = append(odd, is(1, name, 2+i, api.KindFile, 0, ""))
	}
	loaded(t, "odd names", odd, 0, 99)
}

func TestLoadRefusesWhatNoDumpTells(t *testing.T) {
	for what, turn := range map[string]func(l []api.Entry){
		"two entries turned round":          func(l []api.Entry) { l[2], l[3] = l[3], l[2] },
		"two directories turned round":      func(l []api.Entry) { l[6], l[7] = l[7], l[6] },
		"the first one last":                func(l []api.Entry) { copy(l, append(l[1:len(l):len(l)], l[0])) },
		"a key twice":                       func(l []api.Entry) { l[3].Key = l[2].Key },
		"a key of the last one twice":       func(l []api.Entry) { l[7].Key = l[6].Key },
		"Neg":                               func(l []api.Entry) { l[2].Neg = true },
		"Neg with the zero node":            func(l []api.Entry) { l[2].Neg, l[2].Node = true, api.Node{} },
		"the zero node":                     func(l []api.Entry) { l[2].Node = api.Node{} },
		"a mode below 0":                    func(l []api.Entry) { l[0].Node.Mode = -1 },
		"a mode above MaxMode":              func(l []api.Entry) { l[7].Node.Mode = api.MaxMode + 1 },
		"a link's mode above MaxMode":       func(l []api.Entry) { l[3].Node.Mode = api.MaxMode + 1 },
		"a kind below KindDir":              func(l []api.Entry) { l[7].Node.Kind = 0 },
		"a kind above KindLink":             func(l []api.Entry) { l[3].Node.Kind = 4 },
		"a kind below 0":                    func(l []api.Entry) { l[1].Node.Kind = -1 },
		"a file's target":                   func(l []api.Entry) { l[2].Node.Target = "x" },
		"a directory's target":              func(l []api.Entry) { l[1].Node.Target = "x" },
		"a link that is a file":             func(l []api.Entry) { l[3].Node.Kind = api.KindFile },
		"a file that is a link":             func(l []api.Entry) { l[2].Node.Kind = api.KindLink },
		"an id twice":                       func(l []api.Entry) { l[5].Node.ID = 9 },
		"an id twice, of neighbours":        func(l []api.Entry) { l[3].Node.ID = 9 },
		"a directory's id twice":            func(l []api.Entry) { l[1].Node.ID = 2 },
		"a file with a directory's id":      func(l []api.Entry) { l[2].Node.ID = 6 },
		"an id at Root":                     func(l []api.Entry) { l[2].Node.ID = api.Root },
		"an id 0":                           func(l []api.Entry) { l[2].Node.ID = 0 },
		"an id below 0":                     func(l []api.Entry) { l[2].Node.ID = -9 },
		"the least id":                      func(l []api.Entry) { l[2].Node.ID = math.MinInt },
		"an id at next":                     func(l []api.Entry) { l[2].Node.ID = 10 },
		"an id above next":                  func(l []api.Entry) { l[2].Node.ID = 11 },
		"the greatest id":                   func(l []api.Entry) { l[2].Node.ID = math.MaxInt },
		"a directory that is not there":     func(l []api.Entry) { l[7].Key.Dir = 10 },
		"a directory that is far":           func(l []api.Entry) { l[7].Key.Dir = math.MaxInt },
		"a directory 0":                     func(l []api.Entry) { l[0].Key.Dir = 0 },
		"a directory below 0":               func(l []api.Entry) { l[0].Key.Dir = math.MinInt },
		"a directory that is a file":        func(l []api.Entry) { l[7].Key.Dir = 8 },
		"a directory that is a file of old": func(l []api.Entry) { l[6].Node.Kind = api.KindFile },
		"a directory that is a link":        func(l []api.Entry) { l[6].Node.Kind, l[6].Node.Target = api.KindLink, "x" },
		"a directory that is in itself":     func(l []api.Entry) { l[7].Key.Dir, l[7].Node.Kind = 8, api.KindDir },
	} {
		l := grownEntries()
		turn(l)
		notLoaded(t, what, l, 8, 10)
	}
	loaded(t, "grown", grownEntries(), 8, 10)
}

func TestLoadRefusesNamesAndTargets(t *testing.T) {
	for name := range wrongNames() {
		notLoaded(t, strconv.Quote(name), []api.Entry{is(1, name, 2, api.KindFile, 0, "")}, 1, 3)
	}
	for target := range wrongTargets() {
		notLoaded(t, strconv.Quote(target), []api.Entry{is(1, "a", 2, api.KindLink, 0, target)}, 1, 3)
	}
	for _, mode := range wrongModes() {
		notLoaded(t, strconv.Itoa(mode), []api.Entry{is(1, "a", 2, api.KindFile, mode, "")}, 1, 3)
	}
}

func TestLoadRefusesWhatDoesNotRise(t *testing.T) {
	names := oddNames()
	for i := range names {
		for j := range names {
			l := []api.Entry{is(1, names[i], 2, api.KindFile, 0, ""), is(1, names[j], 3, api.KindFile, 0, "")}
			if i < j {
				loaded(t, "rising", l, 0, 4)
			} else {
				notLoaded(t, "not rising", l, 0, 4)
			}
		}
	}
}

// ring is n directories from the id first on, each of which lies in the next one, the last in the first.
func ring(first, n int) []api.Entry {
	var l []api.Entry
	for i := range n {
		l = append(l, is(first+(i+1)%n, "r", first+i, api.KindDir, 0, ""))
	}
	slices.SortFunc(l, func(a, b api.Entry) int { return a.Key.Dir - b.Key.Dir })
	return l
}

func TestLoadRefusesRings(t *testing.T) {
	for n := 1; n < api.MaxNodes; n++ {
		notLoaded(t, "a ring alone", ring(2, n), 0, 99)
		if n < api.MaxNodes-9 {
			notLoaded(t, "a ring beside a tree", append(grownEntries(), ring(10, n)...), 8, 99)
		}
		if n < api.MaxNodes-2 {
			notLoaded(t, "a file in a ring", append(ring(2, n), is(1+n, "z", 70, api.KindFile, 0, "")), 0, 99)
		}
	}
}

func TestLoadOfChains(t *testing.T) {
	for n := 2; n <= api.MaxNodes; n++ {
		x := deep(t, n)
		alike(t, "a chain", x, loaded(t, "a chain", x.Dump(), x.Version(), x.Next()))
	}
	// A chain whose ids fall: each directory's key stands ahead of the one in which it lies.
	var l []api.Entry
	for id := 2; id < 40; id++ {
		l = append(l, is(id+1, "d", id, api.KindDir, 0, ""))
	}
	notLoaded(t, "a chain below no root", l, 0, 41)
	l = append([]api.Entry{is(1, "d", 40, api.KindDir, 0, "")}, l...)
	loaded(t, "a chain that falls", l, 0, 41)
}

func TestLoadOfFullTrees(t *testing.T) {
	x := full(t, api.MaxNodes)
	y := loaded(t, "MaxNodes", x.Dump(), x.Version(), x.Next())
	refuses(t, y, create(1, "n", 0), api.ErrRoom)
	z := loaded(t, "one less", x.Dump()[:api.MaxNodes-2], x.Version(), x.Next())
	does(t, z, create(1, "n", 0))
	refuses(t, z, create(1, "o", 0), api.ErrRoom)
	one := is(1, "z", 99, api.KindFile, 0, "")
	notLoaded(t, "one more", append(x.Dump(), one), x.Version(), 100)
	many := make([]api.Entry, 100000)
	for i := range many {
		many[i] = is(1, "f"+strconv.Itoa(1000000+i), 2+i, api.KindFile, 0, "")
	}
	notLoaded(t, "many more", many, 1, math.MaxInt)
}

func TestLoadRefusesVersionsAndNext(t *testing.T) {
	for _, version := range []int{-1, -2, math.MinInt, math.MinInt + 1, -1 << 32} {
		notLoaded(t, "version", nil, version, 2)
		notLoaded(t, "version", grownEntries(), version, 10)
	}
	for _, next := range []int{api.Root, 0, -1, -1 << 32, math.MinInt} {
		notLoaded(t, "next", nil, 0, next)
		notLoaded(t, "next", grownEntries(), 8, next)
	}
	notLoaded(t, "next at the greatest id", grownEntries(), 8, 9)
	notLoaded(t, "next at the least id", grownEntries(), 8, 2)
	for _, version := range []int{0, 1, 1 << 40, math.MaxInt} {
		for _, next := range []int{10, 1 << 40, math.MaxInt} {
			loaded(t, "version and next", grownEntries(), version, next)
		}
	}
}

// R3

func TestLoadedEntriesAreNeitherChangedNorKept(t *testing.T) {
	room := append(grownEntries(), is(9, "room", 1, 1, 1, "room"), is(9, "room", 1, 1, 1, "room"))
	was := slices.Clone(room)
	x := loaded(t, "grown", room[:8], 8, 10)
	does(t, x, create(1, "n", 0), create(1, "o", 0), unlink(1, "h"), setattr(1, "a", 3), rename(1, "l", 5, "l"))
	if !slices.Equal(room, was) {
		t.Errorf("what was handed in has become %v", room)
	}
	y := loaded(t, "grown", room[:8], 8, 10)
	clear(room)
	tells(t, "what was handed in is cleared", y, 8, 10, grownEntries())
	turned := grownEntries()
	turned[0], turned[7] = turned[7], turned[0]
	was = slices.Clone(turned)
	notLoaded(t, "turned round", turned, 8, 10)
	if !slices.Equal(turned, was) {
		t.Errorf("what was refused has become %v", turned)
	}
}

func TestLoadOfAnEmptyListWithRoom(t *testing.T) {
	room := grownEntries()
	x := loaded(t, "room", room[:0], 0, 2)
	does(t, x, create(1, "n", 0))
	if !slices.Equal(room, grownEntries()) {
		t.Errorf("the room has become %v", room)
	}
}

// R5

func TestNoNumberLeavesTheInts(t *testing.T) {
	x := loaded(t, "the last version", grownEntries(), math.MaxInt, 10)
	for _, op := range []api.Op{create(1, "n", 0), rename(1, "h", 1, "h"), unlink(1, "h"), setattr(1, "a", 1)} {
		refuses(t, x, op, api.ErrFull)
	}
	// What is refused in any tree has its own error.
	refuses(t, x, create(1, "a", 0), api.ErrExist)
	x = loaded(t, "the version ahead of it", grownEntries(), math.MaxInt-1, 10)
	does(t, x, create(1, "n", 0))
	refuses(t, x, create(1, "o", 0), api.ErrFull)

	x = loaded(t, "the last id", grownEntries(), 8, math.MaxInt-1)
	answers(t, x, create(1, "n", 0), is(1, "n", math.MaxInt-1, api.KindFile, 0, ""))
	refuses(t, x, create(1, "o", 0), api.ErrFull)
	refuses(t, x, create(1, "n", 0), api.ErrExist)
	answers(t, x, unlink(1, "n"), isNot(1, "n"))
	tells(t, "the last id", x, 10, math.MaxInt, grownEntries())
	loaded(t, "the last id", x.Dump(), x.Version(), x.Next())
}
