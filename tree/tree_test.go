package tree_test

import (
	"math"
	"slices"
	"strings"
	"testing"

	"vista/api"
	"vista/tree"
)

// What the ops of the tests are, by their kinds.

func create(dir int, name string, mode int) api.Op {
	return api.Op{Kind: api.OpCreate, Dir: dir, Name: name, Mode: mode}
}

func mkdir(dir int, name string, mode int) api.Op {
	return api.Op{Kind: api.OpMkdir, Dir: dir, Name: name, Mode: mode}
}

func symlink(dir int, name, target string) api.Op {
	return api.Op{Kind: api.OpSymlink, Dir: dir, Name: name, Target: target}
}

func unlink(dir int, name string) api.Op {
	return api.Op{Kind: api.OpUnlink, Dir: dir, Name: name}
}

func rmdir(dir int, name string) api.Op {
	return api.Op{Kind: api.OpRmdir, Dir: dir, Name: name}
}

func rename(dir int, name string, to int, now string) api.Op {
	return api.Op{Kind: api.OpRename, Dir: dir, Name: name, To: to, New: now}
}

func setattr(dir int, name string, mode int) api.Op {
	return api.Op{Kind: api.OpSetattr, Dir: dir, Name: name, Mode: mode}
}

// is is the entry of a name that is a node.
func is(dir int, name string, id, kind, mode int, target string) api.Entry {
	return api.Entry{Key: api.Key{Dir: dir, Name: name}, Node: api.Node{ID: id, Kind: kind, Mode: mode, Target: target}}
}

// isNot is the entry of a name that is nothing.
func isNot(dir int, name string) api.Entry {
	return api.Entry{Key: api.Key{Dir: dir, Name: name}, Neg: true}
}

// keysOf are the entries' keys.
func keysOf(entries []api.Entry) []api.Key {
	var keys []api.Key
	for _, entry := range entries {
		keys = append(keys, entry.Key)
	}
	return keys
}

// does applies ops that must be done.
func does(t *testing.T, x *tree.Tree, ops ...api.Op) {
	t.Helper()
	for _, op := range ops {
		if _, _, e := x.Apply(op); e != api.OK {
			t.Fatalf("%v: %d", op, e)
		}
	}
}

// grown is a tree of nine nodes; /a/b/c/g is its deepest one.
func grown(t *testing.T) *tree.Tree {
	t.Helper()
	x := tree.New()
	does(t, x,
		mkdir(1, "a", 7),
		create(2, "f", 511),
		symlink(1, "l", "a/f"),
		mkdir(1, "e", 0),
		mkdir(2, "b", 6),
		mkdir(6, "c", 5),
		create(7, "g", 0),
		create(1, "h", 9))
	return x
}

// grownEntries are those of grown.
func grownEntries() []api.Entry {
	return []api.Entry{
		is(1, "a", 2, api.KindDir, 7, ""),
		is(1, "e", 5, api.KindDir, 0, ""),
		is(1, "h", 9, api.KindFile, 9, ""),
		is(1, "l", 4, api.KindLink, 0, "a/f"),
		is(2, "b", 6, api.KindDir, 6, ""),
		is(2, "f", 3, api.KindFile, 511, ""),
		is(6, "c", 7, api.KindDir, 5, ""),
		is(7, "g", 8, api.KindFile, 0, ""),
	}
}

// tells fails if a tree is another one than this.
func tells(t *testing.T, what string, x *tree.Tree, version, next int, want []api.Entry) {
	t.Helper()
	if x.Version() != version || x.Next() != next || x.Count() != len(want)+1 {
		t.Errorf("%s: version %d, next %d, count %d, not %d, %d, %d", what, x.Version(), x.Next(), x.Count(), version, next, len(want)+1)
	}
	if got := x.Dump(); !slices.Equal(got, want) {
		t.Errorf("%s: %v, not %v", what, got, want)
	}
}

// stale are ids that no node of grown has.
func stale() []int {
	return []int{0, -1, -2, 10, 11, 99, api.MaxNodes, 1 << 31, 1<<32 + 1, 1<<32 + 2, math.MaxInt, math.MinInt, math.MinInt + 1}
}

// wrongNames are names that layer 2 refuses.
func wrongNames() map[string]api.Errno {
	return map[string]api.Errno{
		"":                       api.ErrName,
		".":                      api.ErrName,
		"..":                     api.ErrName,
		"/":                      api.ErrName,
		"a/b":                    api.ErrName,
		"a\x00":                  api.ErrName,
		strings.Repeat("x", 13):  api.ErrNameTooLong,
		strings.Repeat("/", 13):  api.ErrNameTooLong,
		strings.Repeat("x", 999): api.ErrNameTooLong,
	}
}

// oddNames are names that layer 2 takes, rising.
func oddNames() []string {
	return []string{
		"\x01", " ", "!", "...", "..a", "A", "Z", "a", "a\x01", "aB", "aa", "ab", "b", "ba",
		strings.Repeat("x", api.MaxName-1), strings.Repeat("x", api.MaxName), "\x80", "\xc3", "\xc3\xa9", "\xff", "\xff\xfe",
	}
}

// P5.1

func TestNewIsTheRootAlone(t *testing.T) {
	x := tree.New()
	tells(t, "New", x, 0, api.Root+1, nil)
	if l, e := x.List(api.Root); e != api.OK || len(l) != 0 {
		t.Errorf("List of the root: %v, %d", l, e)
	}
	if got, e := x.Look(api.Root, "a"); e != api.OK || got != isNot(api.Root, "a") {
		t.Errorf("Look in the root: %v, %d", got, e)
	}
}

func TestCountAndNext(t *testing.T) {
	x := tree.New()
	for i, c := range []struct {
		op          api.Op
		count, next int
	}{
		{mkdir(1, "a", 0), 2, 3},
		{create(2, "b", 0), 3, 4},
		{symlink(1, "c", "x"), 4, 5},
		{setattr(1, "a", 3), 4, 5},
		{create(1, "a", 0), 4, 5},
		{rename(1, "c", 2, "c"), 4, 5},
		{rename(2, "c", 2, "b"), 3, 5},
		{create(2, "c", 0), 4, 6},
		{unlink(2, "b"), 3, 6},
		{unlink(2, "c"), 2, 6},
		{rmdir(1, "a"), 1, 6},
		{mkdir(1, "a", 0), 2, 7},
	} {
		x.Apply(c.op)
		if x.Count() != c.count || x.Next() != c.next {
			t.Errorf("%d: count %d, next %d, not %d, %d", i, x.Count(), x.Next(), c.count, c.next)
		}
	}
}

// notDirectories are ids of grown with the error of asking for a directory of that id.
func notDirectories() map[int]api.Errno {
	wrong := map[int]api.Errno{3: api.ErrNotDir, 4: api.ErrNotDir, 8: api.ErrNotDir, 9: api.ErrNotDir}
	for _, id := range stale() {
		wrong[id] = api.ErrStale
	}
	return wrong
}

func TestTheDirectoryIsAskedForFirst(t *testing.T) {
	x := grown(t)
	for dir, want := range notDirectories() {
		for _, name := range []string{"a", "f", "zz", "", "..", strings.Repeat("x", 13)} {
			if got, e := x.Look(dir, name); e != want || got != (api.Entry{}) {
				t.Errorf("Look(%d, %q): %v, %d, not %d", dir, name, got, e, want)
			}
			for kind := api.OpCreate; kind <= api.OpSetattr; kind++ {
				op := api.Op{Kind: kind, Dir: dir, Name: name, To: 99, New: "", Mode: -1, Target: ""}
				if l, k, e := x.Apply(op); e != want || len(l) != 0 || len(k) != 0 {
					t.Errorf("%v: %v, %v, %d, not %d", op, l, k, e, want)
				}
			}
		}
		if l, e := x.List(dir); e != want || len(l) != 0 {
			t.Errorf("List(%d): %v, %d, not %d", dir, l, e, want)
		}
	}
	tells(t, "asked", x, 8, 10, grownEntries())
}

func TestADirectoryThatIsGoneIsStale(t *testing.T) {
	x := tree.New()
	does(t, x, mkdir(1, "a", 0), mkdir(1, "b", 0), rmdir(1, "a"), mkdir(1, "a", 0), rename(1, "a", 1, "b"))
	for _, id := range []int{2, 3} {
		if _, e := x.Look(id, "x"); e != api.ErrStale {
			t.Errorf("Look in %d: %d", id, e)
		}
		if _, e := x.List(id); e != api.ErrStale {
			t.Errorf("List of %d: %d", id, e)
		}
		if _, _, e := x.Apply(create(id, "x", 0)); e != api.ErrStale {
			t.Errorf("create in %d: %d", id, e)
		}
	}
	if l, e := x.List(4); e != api.OK || len(l) != 0 {
		t.Errorf("List of 4: %v, %d", l, e)
	}
}

// P5.2

func TestLook(t *testing.T) {
	x := grown(t)
	for _, want := range grownEntries() {
		if got, e := x.Look(want.Key.Dir, want.Key.Name); e != api.OK || got != want {
			t.Errorf("Look: %v, %d, not %v", got, e, want)
		}
	}
	for _, dir := range []int{1, 2, 5, 6, 7} {
		for _, name := range append(oddNames(), "f", "g", "l") {
			want := isNot(dir, name)
			for _, entry := range grownEntries() {
				if entry.Key == want.Key {
					want = entry
				}
			}
			if got, e := x.Look(dir, name); e != api.OK || got != want {
				t.Errorf("Look(%d, %q): %v, %d, not %v", dir, name, got, e, want)
			}
		}
	}
}

func TestLookRefusesNames(t *testing.T) {
	x := grown(t)
	for name, want := range wrongNames() {
		for _, dir := range []int{1, 2, 5, 7} {
			if got, e := x.Look(dir, name); e != want || got != (api.Entry{}) {
				t.Errorf("Look(%d, %q): %v, %d, not %d", dir, name, got, e, want)
			}
		}
	}
}

func TestList(t *testing.T) {
	x := grown(t)
	all := grownEntries()
	for dir, want := range map[int][]api.Entry{1: all[:4], 2: all[4:6], 5: nil, 6: all[6:7], 7: all[7:]} {
		if got, e := x.List(dir); e != api.OK || !slices.Equal(got, want) {
			t.Errorf("List(%d): %v, %d, not %v", dir, got, e, want)
		}
	}
}

func TestNamesRiseByteByByte(t *testing.T) {
	names := oddNames()
	for _, step := range []int{1, 2, 4, 5, 8, len(names) - 1} {
		x := tree.New()
		does(t, x, mkdir(1, "zz", 0))
		// The names come in another order than they are told in.
		for i := range names {
			does(t, x, create(2, names[i*step%len(names)], 0))
		}
		l, e := x.List(2)
		if e != api.OK || len(l) != len(names) {
			t.Fatalf("List: %v, %d", l, e)
		}
		for i, entry := range l {
			if entry.Key != (api.Key{Dir: 2, Name: names[i]}) {
				t.Errorf("step %d: the name %d is %q, not %q", step, i, entry.Key.Name, names[i])
			}
		}
		if d := x.Dump(); len(d) != len(names)+1 || !slices.Equal(d[1:], l) {
			t.Errorf("step %d: Dump: %v", step, d)
		}
	}
}

func TestFind(t *testing.T) {
	x := grown(t)
	for _, want := range grownEntries() {
		if got, e := x.Find(want.Node.ID); e != api.OK || got != want {
			t.Errorf("Find(%d): %v, %d, not %v", want.Node.ID, got, e, want)
		}
	}
	for _, id := range stale() {
		if got, e := x.Find(id); e != api.ErrStale || got != (api.Entry{}) {
			t.Errorf("Find(%d): %v, %d", id, got, e)
		}
	}
	for _, y := range []*tree.Tree{x, tree.New()} {
		if got, e := y.Find(api.Root); e != api.ErrArg || got != (api.Entry{}) {
			t.Errorf("Find of the root: %v, %d", got, e)
		}
	}
}

func TestFindFollowsTheNode(t *testing.T) {
	x := grown(t)
	does(t, x, rename(6, "c", 1, "z"), setattr(1, "z", 1), rename(1, "h", 2, "f"), unlink(1, "l"))
	for id, want := range map[int]api.Entry{
		7: is(1, "z", 7, api.KindDir, 1, ""),
		8: is(7, "g", 8, api.KindFile, 0, ""),
		9: is(2, "f", 9, api.KindFile, 9, ""),
	} {
		if got, e := x.Find(id); e != api.OK || got != want {
			t.Errorf("Find(%d): %v, %d, not %v", id, got, e, want)
		}
	}
	for _, id := range []int{3, 4} {
		if got, e := x.Find(id); e != api.ErrStale || got != (api.Entry{}) {
			t.Errorf("Find(%d): %v, %d", id, got, e)
		}
	}
}

func TestDumpGoesByDirectoryThenName(t *testing.T) {
	x := tree.New()
	// Directories whose numbers rise otherwise than their digits, or their names.
	for i := 2; i <= 12; i++ {
		does(t, x, mkdir(i-1, string(rune('z'-i)), i))
	}
	for i := 12; i >= 1; i-- {
		does(t, x, symlink(i, "~", "/"), create(i, "A", i))
	}
	var want []api.Entry
	for i := 1; i <= 12; i++ {
		id := 13 + 2*(12-i)
		want = append(want, is(i, "A", id+1, api.KindFile, i, ""))
		if i < 12 {
			want = append(want, is(i, string(rune('z'-i-1)), i+1, api.KindDir, i+1, ""))
		}
		want = append(want, is(i, "~", id, api.KindLink, 0, "/"))
	}
	tells(t, "Dump", x, 35, 37, want)
}

// R3

func TestAnswersAreNewMemory(t *testing.T) {
	x := grown(t)
	want := grownEntries()
	spoil := func(l []api.Entry) {
		l = l[:cap(l)]
		for i := range l {
			l[i] = is(9, "spoilt", -1, -1, -1, "spoilt")
		}
	}
	first, second := x.Dump(), x.Dump()
	spoil(first)
	if !slices.Equal(second, want) {
		t.Errorf("two Dumps have memory in common: %v", second)
	}
	l, _ := x.List(1)
	m, _ := x.List(1)
	spoil(l)
	if !slices.Equal(m, want[:4]) {
		t.Errorf("two Lists have memory in common: %v", m)
	}
	tells(t, "spoilt lists", x, 8, 10, want)
	entries, keys, e := x.Apply(rename(1, "h", 5, "h"))
	spoil(entries)
	room := keys[:cap(keys)]
	for i := range room {
		room[i] = api.Key{Dir: -1, Name: "spoilt"}
	}
	want = slices.Delete(want, 2, 3)
	want = slices.Insert(want, 5, is(5, "h", 9, api.KindFile, 9, ""))
	if e != api.OK {
		t.Errorf("rename: %d", e)
	}
	tells(t, "a spoilt answer", x, 9, 10, want)
}

func TestLaterCallsLeaveAnswersAlone(t *testing.T) {
	x := grown(t)
	dump := x.Dump()
	list, _ := x.List(1)
	entries, keys, _ := x.Apply(rename(1, "h", 5, "h"))
	does(t, x, rename(5, "h", 1, "l"), setattr(1, "a", 1), unlink(1, "l"), create(1, "0", 0), rmdir(1, "e"), unlink(7, "g"))
	if !slices.Equal(dump, grownEntries()) || !slices.Equal(list, grownEntries()[:4]) {
		t.Errorf("later calls turned what was told: %v, %v", dump, list)
	}
	want := []api.Entry{isNot(1, "h"), is(5, "h", 9, api.KindFile, 9, "")}
	if !slices.Equal(entries, want) || !slices.Equal(keys, keysOf(want)) {
		t.Errorf("later calls turned what Apply answered: %v, %v", entries, keys)
	}
}

func TestTreesHaveNothingInCommon(t *testing.T) {
	x, y := grown(t), tree.New()
	does(t, y, create(1, "a", 1))
	tells(t, "the one", x, 8, 10, grownEntries())
	tells(t, "the other", y, 1, 3, []api.Entry{is(1, "a", 2, api.KindFile, 1, "")})
}
