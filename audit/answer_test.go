package audit_test

import (
	"math"
	"reflect"
	"strconv"
	"strings"
	"testing"

	"vista/api"
	"vista/audit"
	"vista/tree"
)

// grown is a tree with all kinds of nodes and links.
func grown(t *testing.T) *tree.Tree {
	t.Helper()
	history := []api.Op{
		mkdir(1, "a", 7), create(2, "f", 1), mkdir(2, "b", 5), create(4, "g", 2), mkdir(1, "e", 3),
		symlink(1, "l", "a/"), symlink(2, "up", "../e"), symlink(4, "whole", "/a/f"), symlink(1, "m", "m"), symlink(1, "home", "/"),
		symlink(1, "gone", "a/none"), symlink(1, "file", "a/f"), symlink(1, "slash", "a/f/"), symlink(1, "dots", "a/f/.."), symlink(2, "\xff", "."),
		create(1, "...", 0), setattr(1, "l", 9),
	}
	return at(t, history, len(history))
}

// marked is the link /l of grown.
func marked() api.Node { return api.Node{ID: 7, Kind: api.KindLink, Mode: 9, Target: "a/"} }

// plain is an answer whose empty list is nil: the two are one.
func plain(a api.Answer) api.Answer {
	if len(a.Names) == 0 {
		a.Names = nil
	}
	return a
}

// answers fails if a read is not answered so, at the tree's version.
func answers(t *testing.T, x *tree.Tree, call api.Call, links int, want api.Answer) {
	t.Helper()
	want.Version = x.Version()
	if got := audit.Answer(x, call, links); !reflect.DeepEqual(plain(got), plain(want)) {
		t.Errorf("%+v, %d links: %+v, not %+v", call, links, got, want)
	}
}

// is, lists and fails are answers but for their version.
func is(n api.Node) api.Answer { return api.Answer{Node: n} }

func lists(names ...string) api.Answer { return api.Answer{Names: names} }

func fails(e api.Errno) api.Answer { return api.Answer{Err: e} }

func reads(kind int, path string) api.Call { return api.Call{Kind: kind, Path: path} }

func lookup(path string) api.Call { return reads(api.CallLookup, path) }

func stat(path string) api.Call { return reads(api.CallStat, path) }

func readlink(path string) api.Call { return reads(api.CallReadlink, path) }

func readdir(path string) api.Call { return reads(api.CallReaddir, path) }

// readKinds are those of the calls that read.
func readKinds() []int {
	return []int{api.CallLookup, api.CallStat, api.CallReadlink, api.CallReaddir}
}

// each fails if a read of any kind is not answered so.
func each(t *testing.T, x *tree.Tree, path string, links int, want api.Answer) {
	t.Helper()
	for _, kind := range readKinds() {
		answers(t, x, reads(kind, path), links, want)
	}
}

// P17.2

func TestAnswersOfTheExample(t *testing.T) {
	two, three := at(t, example(), 2), at(t, example(), 3)
	if got := audit.Answer(two, lookup("/a/f"), 3); !reflect.DeepEqual(plain(got), api.Answer{Node: file(3, 1), Version: 2}) {
		t.Errorf("at the version 2: %+v", got)
	}
	if got := audit.Answer(three, lookup("/a/f"), 3); !reflect.DeepEqual(plain(got), api.Answer{Err: api.ErrNotFound, Version: 3}) {
		t.Errorf("at the version 3: %+v", got)
	}
}

// What a node without links in its path answers to each kind.
func TestNodes(t *testing.T) {
	x := grown(t)
	for path, n := range map[string]api.Node{
		"/": root(), "/a": folder(2, 7), "/a/f": file(3, 1), "/a/b": folder(4, 5), "/a/b/g": file(5, 2), "/e": folder(6, 3), "/...": file(17, 0),
		"///": root(), "//a//b": folder(4, 5),
	} {
		answers(t, x, lookup(path), 3, is(n))
		answers(t, x, stat(path), 3, is(n))
		answers(t, x, readlink(path), 3, fails(api.ErrNotLink))
		if n.Kind != api.KindDir {
			answers(t, x, readdir(path), 3, fails(api.ErrNotDir))
		}
	}
}

func TestDirectoriesAreRead(t *testing.T) {
	x := grown(t)
	for path, names := range map[string][]string{
		"/": {"...", "a", "dots", "e", "file", "gone", "home", "l", "m", "slash"}, "/a": {"b", "f", "up", "\xff"}, "/a/b": {"g", "whole"}, "/e": nil, "/e/": nil,
		"/l": {"b", "f", "up", "\xff"}, "/home/a/b": {"g", "whole"}, "/a/up": nil, "/a/\xff/\xff": {"b", "f", "up", "\xff"}, "/e/../a/b/.": {"g", "whole"}, "/a/b/../..": {"...", "a", "dots", "e", "file", "gone", "home", "l", "m", "slash"},
	} {
		answers(t, x, readdir(path), 3, lists(names...))
	}
	answers(t, tree.New(), readdir("/"), 0, lists())
	for _, path := range []string{"/a/f", "/file", "/a/b/whole", "/..."} {
		answers(t, x, readdir(path), 3, fails(api.ErrNotDir))
	}
}

// Names come byte by byte, whatever they were made as.
func TestNamesRise(t *testing.T) {
	x := at(t, []api.Op{create(1, "b", 0), create(1, "\xff", 0), create(1, "B", 0), create(1, "aa", 0), create(1, "\x01", 0), create(1, "é", 0), create(1, "a", 0)}, 7)
	answers(t, x, readdir("/"), 0, lists("\x01", "B", "a", "aa", "b", "é", "\xff"))
}

// A link in the end is gone through by CallLookup and CallReaddir alone, unless the path must be a directory.
func TestALinkAtTheEnd(t *testing.T) {
	x := grown(t)
	for path, n := range map[string]api.Node{
		"/l": marked(), "/a/up": link(8, "../e"), "/a/b/whole": link(9, "/a/f"), "/m": link(10, "m"), "/home": link(11, "/"), "/gone": link(12, "a/none"),
		"/file": link(13, "a/f"), "/slash": link(14, "a/f/"), "/dots": link(15, "a/f/.."), "/a/\xff": link(16, "."), "/home/l": marked(), "/l/up": link(8, "../e"),
	} {
		answers(t, x, stat(path), 3, is(n))
		answers(t, x, readlink(path), 3, is(n))
	}
	for path, want := range map[string]api.Answer{
		"/l": is(folder(2, 7)), "/a/up": is(folder(6, 3)), "/a/b/whole": is(file(3, 1)), "/m": fails(api.ErrLoop), "/home": is(root()), "/gone": fails(api.ErrNotFound),
		"/file": is(file(3, 1)), "/slash": fails(api.ErrNotDir), "/dots": fails(api.ErrNotDir), "/a/\xff": is(folder(2, 7)), "/home/l": is(folder(2, 7)), "/l/up": is(folder(6, 3)),
	} {
		answers(t, x, lookup(path), 3, want)
	}
	for path, e := range map[string]api.Errno{"/m": api.ErrLoop, "/gone": api.ErrNotFound, "/file": api.ErrNotDir, "/slash": api.ErrNotDir, "/dots": api.ErrNotDir, "/a/b/whole": api.ErrNotDir} {
		answers(t, x, readdir(path), 3, fails(e))
		each(t, x, path+"/", 3, fails(e))
		each(t, x, path+"/.", 3, fails(e))
		each(t, x, path+"/..", 3, fails(e))
		each(t, x, path+"/x", 3, fails(e))
	}
}

// With a slash, `.` or `..` in the end each kind goes through a link, and comes to a directory.
func TestPathsThatMustBeDirectories(t *testing.T) {
	x := grown(t)
	for path, n := range map[string]api.Node{
		"/l/": folder(2, 7), "/l//": folder(2, 7), "/l/.": folder(2, 7), "/l/..": root(), "/a/up/": folder(6, 3), "/a/up/..": root(), "/home/": root(), "/home/.": root(),
		"/a/": folder(2, 7), "/a/b/": folder(4, 5), "/a/b/.": folder(4, 5), "/a/b/..": folder(2, 7), "/a/b/./": folder(4, 5), "/a/b/../": folder(2, 7), "/a/\xff/": folder(2, 7),
	} {
		answers(t, x, lookup(path), 3, is(n))
		answers(t, x, stat(path), 3, is(n))
		answers(t, x, readlink(path), 3, fails(api.ErrNotLink))
	}
	for _, path := range []string{"/a/f/", "/a/f/.", "/a/f/..", "/a/f/f", "/a/f//", "/.../", "/a/b/g/../../f", "/file/"} {
		each(t, x, path, 3, fails(api.ErrNotDir))
	}
}

func TestDots(t *testing.T) {
	x := grown(t)
	for path, n := range map[string]api.Node{
		"/.": root(), "/..": root(), "/../..": root(), "/./../.": root(), "/../a": folder(2, 7), "/a/../../a": folder(2, 7), "/./a/./f": file(3, 1), "/a/..": root(),
		"/a/b/../f": file(3, 1), "/a/b/../../e": folder(6, 3), "/e/../e/../a/b/g": file(5, 2), "/...": file(17, 0), "/home/..": root(), "/a/\xff/..": root(),
		// Behind a link the way is the one through its target.
		"/l/../e": folder(6, 3), "/l/b/..": folder(2, 7), "/a/up/../a": folder(2, 7), "/l/up/..": root(), "/a/b/../up/..": root(),
	} {
		answers(t, x, lookup(path), 3, is(n))
		answers(t, x, stat(path), 3, is(n))
	}
}

// What is not there: the first of what is wrong is told.
func TestWhatIsNotThere(t *testing.T) {
	x := grown(t)
	for path, e := range map[string]api.Errno{
		"/x": api.ErrNotFound, "/x/": api.ErrNotFound, "/x/y": api.ErrNotFound, "/x/..": api.ErrNotFound, "/a/x": api.ErrNotFound, "/e/f": api.ErrNotFound, "/A": api.ErrNotFound,
		"/f": api.ErrNotFound, "/a/b/f": api.ErrNotFound, "/l/x": api.ErrNotFound, "/gone/x": api.ErrNotFound, "/a/up/f": api.ErrNotFound, "/....": api.ErrNotFound,
		"/a/f/x": api.ErrNotDir, "/a/f/x/y": api.ErrNotDir, "/file/x": api.ErrNotDir, "/a/b/whole/x": api.ErrNotDir, "/a/f/../x": api.ErrNotDir, "/slash/x": api.ErrNotDir,
		"/m/": api.ErrLoop, "/m/x": api.ErrLoop, "/x/m/": api.ErrNotFound, "/a/f/m/": api.ErrNotDir,
	} {
		each(t, x, path, 3, fails(e))
	}
}

func TestPathsThatSplitRefuses(t *testing.T) {
	x, long := grown(t), strings.Repeat("x", api.MaxName+1)
	for path, e := range map[string]api.Errno{
		"": api.ErrPath, "a": api.ErrPath, "a/": api.ErrPath, ".": api.ErrPath, "l": api.ErrPath, "/\x00": api.ErrPath, "/a\x00": api.ErrPath, "/a/\x00/f": api.ErrPath, "\x00": api.ErrPath,
		"/" + long: api.ErrNameTooLong, "/a/f/" + long: api.ErrNameTooLong, "/" + long + "/..": api.ErrNameTooLong, "/x/" + long: api.ErrNameTooLong, "/m/" + long: api.ErrNameTooLong, "/.............": api.ErrNameTooLong,
		strings.Repeat("/", api.MaxPath+1): api.ErrPathTooLong, "/" + strings.Repeat("a/", 48): api.ErrPathTooLong, strings.Repeat("\x00", 97): api.ErrPathTooLong, "/" + strings.Repeat("x", 1000): api.ErrPathTooLong,
		"x" + long: api.ErrPath, "/" + long + "\x00": api.ErrPath,
	} {
		each(t, x, path, 3, fails(e))
		each(t, tree.New(), path, 0, fails(e))
	}
	// Just short enough.
	each(t, x, "/"+long[1:], 3, fails(api.ErrNotFound))
	answers(t, x, stat(strings.Repeat("/", api.MaxPath)), 3, is(root()))
	answers(t, x, stat("/"+strings.Repeat("a/../", 18)+"a/b/."), 3, is(folder(4, 5)))
}

// A tree has no link whose target is refused: neither an op makes one, nor does Load.
func TestTargetsThatAreRefused(t *testing.T) {
	for target, e := range map[string]api.Errno{"": api.ErrPath, "a\x00": api.ErrPath, "/abcdefghijklm": api.ErrNameTooLong, strings.Repeat("/", 97): api.ErrPathTooLong} {
		noTree(t, []api.Op{symlink(1, "l", target)}, 1, e)
		if _, e := tree.Load([]api.Entry{{Key: api.Key{Dir: 1, Name: "l"}, Node: link(2, target)}}, 1, 3); e != api.ErrArg {
			t.Errorf("%q is loaded: %d", target, e)
		}
	}
}

// The longest targets, and odd ones.
func TestTargets(t *testing.T) {
	for target, want := range map[string]api.Answer{
		"d": is(folder(2, 7)), "d/": is(folder(2, 7)), "./d": is(folder(2, 7)), "../../d": is(folder(2, 7)), "/d": is(folder(2, 7)), "//d//.": is(folder(2, 7)),
		"d/..": is(root()), ".": is(root()), "..": is(root()), "/": is(root()), "///": is(root()), "d/f": is(file(3, 1)), "/d/f": is(file(3, 1)), "d/f/": fails(api.ErrNotDir), "d/f/.": fails(api.ErrNotDir),
		"x": fails(api.ErrNotFound), "d/x": fails(api.ErrNotFound), "d/f/x": fails(api.ErrNotDir), strings.Repeat("d/../", 18) + "/d//f": is(file(3, 1)), strings.Repeat("/", 96): is(root()), "\xff": fails(api.ErrNotFound),
		"l": fails(api.ErrLoop), "./l": fails(api.ErrLoop), "d/../l/x": fails(api.ErrLoop), "x/l": fails(api.ErrNotFound),
	} {
		x := at(t, []api.Op{mkdir(1, "d", 7), create(2, "f", 1), symlink(1, "l", target), symlink(2, "k", target)}, 4)
		answers(t, x, lookup("/l"), 3, want)
		answers(t, x, stat("/l"), 3, is(link(4, target)))
		if target[0] == '/' {
			answers(t, x, lookup("/d/k"), 3, want)
		}
		if want.Err == api.OK && want.Node.Kind == api.KindFile {
			want = fails(api.ErrNotDir)
		}
		answers(t, x, stat("/l/"), 3, want)
	}
}

// A link's own slash makes no directory of what stands behind the link.
func TestTheTargetsSlashWithinAPath(t *testing.T) {
	x := at(t, []api.Op{mkdir(1, "d", 7), create(2, "f", 1), symlink(1, "l", "d/"), symlink(2, "k", "f"), symlink(2, "s", "f/"), symlink(1, "n", "l/k")}, 6)
	answers(t, x, lookup("/l/f"), 3, is(file(3, 1)))
	answers(t, x, stat("/l/f"), 3, is(file(3, 1)))
	answers(t, x, lookup("/l/k"), 3, is(file(3, 1)))
	answers(t, x, stat("/l/k"), 3, is(link(5, "f")))
	answers(t, x, lookup("/n"), 3, is(file(3, 1)))
	each(t, x, "/l/k/", 3, fails(api.ErrNotDir))
	answers(t, x, lookup("/l/s"), 3, fails(api.ErrNotDir))
	answers(t, x, readlink("/l/s"), 3, is(link(6, "f/")))
}

// That the last link's target must be a directory makes links within it be met, too.
func TestALinkToALinkWithASlash(t *testing.T) {
	x := at(t, []api.Op{mkdir(1, "d", 7), symlink(1, "one", "d"), symlink(1, "two", "one/"), symlink(1, "three", "two"), symlink(1, "dot", "one/.")}, 5)
	for _, path := range []string{"/one", "/two", "/three", "/dot"} {
		answers(t, x, lookup(path), 3, is(folder(2, 7)))
		answers(t, x, stat(path+"/"), 3, is(folder(2, 7)))
		answers(t, x, stat(path+"/."), 3, is(folder(2, 7)))
		answers(t, x, readdir(path), 3, lists())
	}
	answers(t, x, stat("/two"), 3, is(link(4, "one/")))
}

// chain is a tree with the links c0 to c12, of which each leads to the one ahead, and c0 to the file 2; whole ones and others take turns.
func chain(t *testing.T) *tree.Tree {
	t.Helper()
	history := []api.Op{create(1, "f", 1), symlink(1, "c0", "f")}
	for i := range 12 {
		history = append(history, symlink(1, "c"+strconv.Itoa(i+1), []string{"c", "/c", "./c"}[i%3]+strconv.Itoa(i)))
	}
	return at(t, history, len(history))
}

// So many links may be met, and not one more.
func TestLimitsOfLinks(t *testing.T) {
	x := chain(t)
	for links, most := range map[int]int{
		math.MinInt: 0, math.MinInt + 1: 0, -1 << 32: 0, -1: 0, 0: 0, 1: 1, 2: 2, 3: 3, 4: 4, 5: 5, 6: 6, 7: 7, 8: 8,
		api.MaxLinks + 1: 8, 12: 8, 1 << 32: 8, math.MaxInt: 8,
	} {
		for i := range 13 {
			path, want := "/c"+strconv.Itoa(i), is(file(2, 1))
			if i+1 > most {
				want = fails(api.ErrLoop)
			}
			answers(t, x, lookup(path), links, want)
			if want.Err == api.OK {
				want = fails(api.ErrNotDir)
			}
			answers(t, x, readdir(path), links, want)
			answers(t, x, stat(path+"/"), links, want)
			if n := audit.Answer(x, stat(path), links).Node; n.Kind != api.KindLink || n.ID != i+3 {
				t.Errorf("%s, not followed: %+v", path, n)
			}
		}
	}
}

// Links count wherever they are met, also the same one again, and those that stay in their place.
func TestLinksAreCounted(t *testing.T) {
	x := grown(t)
	for _, c := range []struct {
		path string
		met  int
		node api.Node
	}{
		{"/a/f", 0, file(3, 1)}, {"/l/f", 1, file(3, 1)}, {"/l/../l/f", 2, file(3, 1)}, {"/home/home/home/a", 3, folder(2, 7)}, {"/a/\xff/\xff/\xff/\xff/f", 4, file(3, 1)},
		{"/home/l/\xff/b/whole", 4, file(3, 1)}, {"/a/up/../home/file", 3, file(3, 1)}, {"/home/home/home/home/home/home/home/home", 8, root()},
	} {
		for links := range api.MaxLinks + 1 {
			want := is(c.node)
			if links < c.met {
				want = fails(api.ErrLoop)
			}
			answers(t, x, lookup(c.path), links, want)
		}
	}
	answers(t, x, lookup(strings.Repeat("/home", 9)), math.MaxInt, fails(api.ErrLoop))
	answers(t, x, stat(strings.Repeat("/home", 9)), math.MaxInt, is(link(11, "/")))
}

// The limit is told ahead of what the target would be.
func TestTheLimitComesFirst(t *testing.T) {
	x := grown(t)
	for _, path := range []string{"/gone", "/slash", "/dots", "/l", "/home", "/m"} {
		answers(t, x, lookup(path), 0, fails(api.ErrLoop))
		each(t, x, path+"/x", 0, fails(api.ErrLoop))
		each(t, x, path+"/", -1, fails(api.ErrLoop))
	}
	each(t, x, "/x/l/", 0, fails(api.ErrNotFound))
	each(t, x, "/a/f/l/", 0, fails(api.ErrNotDir))
}

func TestKindsThatDoNotRead(t *testing.T) {
	for _, x := range []*tree.Tree{tree.New(), grown(t)} {
		for _, kind := range []int{0, -1, -3, api.CallCreate, api.CallMkdir, api.CallSymlink, api.CallUnlink, api.CallRmdir, api.CallRename, api.CallSetattr, api.CallSync, api.CallSync + 1, 1<<32 + api.CallLookup, math.MinInt, math.MaxInt} {
			for _, path := range []string{"/", "/a", "/l", "", "a", "/x", "/abcdefghijklm", "/m/"} {
				answers(t, x, api.Call{Kind: kind, Path: path, Other: "/", Mode: 1}, 3, fails(api.ErrArg))
			}
		}
	}
}

// Fields that a read does not name are not looked at.
func TestOtherFieldsOfACall(t *testing.T) {
	x := grown(t)
	for _, path := range []string{"/", "/a", "/l", "/a/f", "/x", "a", "/m/"} {
		for _, kind := range readKinds() {
			want := audit.Answer(x, reads(kind, path), 3)
			for _, mode := range []int{-1, 1, math.MinInt, math.MaxInt} {
				answers(t, x, api.Call{Kind: kind, Path: path, Other: "no \x00 path", Mode: mode}, 3, want)
			}
		}
	}
}

// The version is the tree's, whatever is answered.
func TestTheVersionIsTheTrees(t *testing.T) {
	for _, version := range []int{0, 1, 7, 1 << 40, math.MaxInt} {
		x, e := tree.Load([]api.Entry{{Key: api.Key{Dir: 1, Name: "a"}, Node: folder(2, 7)}, {Key: api.Key{Dir: 1, Name: "l"}, Node: link(3, "l")}}, version, 4)
		if e != api.OK {
			t.Fatal(e)
		}
		for _, kind := range append(readKinds(), 0, api.CallMkdir, api.CallSync, -1) {
			for _, path := range []string{"/", "/a", "/l", "/x", "/l/", "a", "", "/abcdefghijklm"} {
				if got := audit.Answer(x, reads(kind, path), 3); got.Version != version {
					t.Errorf("kind %d, %q: version %d, not %d", kind, path, got.Version, version)
				}
			}
		}
	}
}
