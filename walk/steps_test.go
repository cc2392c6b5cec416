package walk_test

import (
	"strings"
	"testing"

	"vista/api"
	"vista/walk"
)

// P14.2

// At the root `..` stays; behind a directory it goes to the one ahead on the way, by which it was come to, not by its id.
func TestDots(t *testing.T) {
	a, b := key(1, "a"), key(2, "b")
	here, deep := folder(1, "a", 2), folder(2, "b", 3)
	both(t, cache(here, deep), nil,
		walked{"/.", false, 0, finds(root())},
		walked{"/..", false, 0, finds(root())},
		walked{"/../../a", false, 0, finds(here.Node, a)},
		walked{"/a/.", false, 0, finds(here.Node, a)},
		walked{"/a/./.", false, 0, finds(here.Node, a)},
		walked{"/a/..", false, 0, finds(root(), a)},
		walked{"/a/../..", false, 0, finds(root(), a)},
		walked{"/a/b/..", false, 0, finds(here.Node, a, b)},
		walked{"/a/b/../.", false, 0, finds(here.Node, a, b)},
		walked{"/a/b/../..", false, 0, finds(root(), a, b)},
		walked{"/a/b/../../..", false, 0, finds(root(), a, b)},
		walked{"/a/b/../b", false, 0, finds(deep.Node, a, b, b)},
		walked{"/a/b/../../a/b/./..", false, 0, finds(here.Node, a, b, a, b)},
		walked{"/a/../b", false, 0, needs(key(1, "b"), a)},
	)
}

// A directory may be come to again below itself (no tree has that): the way is as long as what was gone.
func TestTheWayIsWhatWasGone(t *testing.T) {
	s, r := key(1, "s"), key(2, "r")
	self, ring := folder(1, "s", 1), folder(2, "r", 1)
	c := cache(self, ring, folder(1, "d", 2))
	d := key(1, "d")
	both(t, c, nil,
		walked{"/s", false, 0, finds(self.Node, s)},
		walked{"/s/..", false, 0, finds(root(), s)},
		walked{"/s/s/..", false, 0, finds(self.Node, s, s)},
		walked{"/s/s/../..", false, 0, finds(root(), s, s)},
		walked{"/d/r/..", false, 0, finds(folder(1, "d", 2).Node, d, r)},
		walked{"/d/r/d/../..", false, 0, finds(folder(1, "d", 2).Node, d, r, d)},
		walked{"/d/r/d/../../..", false, 0, finds(root(), d, r, d)},
	)
}

// Behind a file nothing is looked up, nor is it left by `..`.
func TestBehindAFile(t *testing.T) {
	f := key(1, "f")
	for _, path := range []string{"/f/", "/f/.", "/f/..", "/f/../f", "/f/f", "/f/x", "/f/x/", "/f/./..", "//f//x/y"} {
		want := walked{path, false, 3, fails(api.ErrNotDir, f)}
		both(t, cache(file(1, "f", 3)), nil, want)
		both(t, cache(), []api.Entry{file(1, "f", 3), folder(3, "f", 4), none(3, "x")}, want)
		both(t, set(cache(file(1, "f", 3)), 1, 3), nil, want)
	}
	// An unknown name behind it is not wanted, nor is one that is nothing not found.
	c := cache(file(1, "f", 3), folder(1, "d", 2), file(2, "g", 4))
	both(t, c, nil,
		walked{"/f", false, 3, finds(file(1, "f", 3).Node, f)},
		walked{"/d/g/x", false, 3, fails(api.ErrNotDir, key(1, "d"), key(2, "g"))},
		walked{"/d/../f/.", false, 3, fails(api.ErrNotDir, key(1, "d"), f)},
		walked{"/d/g", false, 3, finds(file(2, "g", 4).Node, key(1, "d"), key(2, "g"))},
	)
}

// Behind a name that is nothing nothing is asked, whatever is left.
func TestBehindNothing(t *testing.T) {
	n := key(1, "n")
	for _, path := range []string{"/n", "/n/", "/n/.", "/n/..", "/n/x", "/n/../../x", "/./n/n"} {
		both(t, cache(none(1, "n")), nil, walked{path, false, 3, fails(api.ErrNotFound, n)})
		both(t, set(cache(folder(1, "x", 2)), 1), nil, walked{path, false, 3, fails(api.ErrNotFound, n)})
		both(t, cache(folder(1, "x", 2)), nil, walked{path, false, 3, needs(n)})
	}
}

// A directory is wanted, or not: dir of Steps.
func TestDir(t *testing.T) {
	c := cache(folder(1, "d", 2), file(1, "f", 3), link(1, "l", 4, "f"), link(1, "m", 5, "d"), link(1, "none", 6, "n"), none(1, "n"))
	d, f, l, m := key(1, "d"), key(1, "f"), key(1, "l"), key(1, "m")
	for _, x := range []struct {
		step                        string
		plain, follow, dir, dirFoll api.Out
	}{
		{"d", finds(folder(1, "d", 2).Node, d), finds(folder(1, "d", 2).Node, d), finds(folder(1, "d", 2).Node, d), finds(folder(1, "d", 2).Node, d)},
		{"f", finds(file(1, "f", 3).Node, f), finds(file(1, "f", 3).Node, f), fails(api.ErrNotDir, f), fails(api.ErrNotDir, f)},
		{"l", finds(link(1, "l", 4, "f").Node, l), finds(file(1, "f", 3).Node, l, f), fails(api.ErrNotDir, l, f), fails(api.ErrNotDir, l, f)},
		{"m", finds(link(1, "m", 5, "d").Node, m), finds(folder(1, "d", 2).Node, m, d), finds(folder(1, "d", 2).Node, m, d), finds(folder(1, "d", 2).Node, m, d)},
		{"none", finds(link(1, "none", 6, "n").Node, key(1, "none")), fails(api.ErrNotFound, key(1, "none"), key(1, "n")), fails(api.ErrNotFound, key(1, "none"), key(1, "n")), fails(api.ErrNotFound, key(1, "none"), key(1, "n"))},
		{"x", needs(key(1, "x")), needs(key(1, "x")), needs(key(1, "x")), needs(key(1, "x"))},
	} {
		steps := []string{x.step}
		comes(t, x.step, walk.Steps(c, nil, steps, false, false, 3), x.plain)
		comes(t, x.step+", follow", walk.Steps(c, nil, steps, false, true, 3), x.follow)
		comes(t, x.step+", dir", walk.Steps(c, nil, steps, true, false, 3), x.dir)
		comes(t, x.step+", dir and follow", walk.Steps(c, nil, steps, true, true, 3), x.dirFoll)
	}
}

// A link is stood at as the last component alone, if it is neither followed nor to be a directory.
func TestLinkAtTheEnd(t *testing.T) {
	a, l, f := key(1, "a"), key(2, "l"), key(2, "f")
	to := link(2, "l", 4, "f")
	c := cache(folder(1, "a", 2), to, file(2, "f", 5))
	all(t, c, nil,
		walked{"/a/l", false, 0, finds(to.Node, a, l)},
		walked{"/a/l", true, 0, fails(api.ErrLoop, a, l)},
		walked{"/a/l", true, 1, finds(file(2, "f", 5).Node, a, l, f)},
		walked{"/a/l/", false, 0, fails(api.ErrLoop, a, l)},
		walked{"/a/l/", false, 1, fails(api.ErrNotDir, a, l, f)},
		walked{"/a/l/", true, 1, fails(api.ErrNotDir, a, l, f)},
		walked{"/a/l/.", false, 0, fails(api.ErrLoop, a, l)},
		walked{"/a/l/..", false, 1, fails(api.ErrNotDir, a, l, f)},
		walked{"/a/l/x", false, 1, fails(api.ErrNotDir, a, l, f)},
	)
}

// What a link's target ends in counts, if the link was the last component, and only then.
func TestTargetThatMustBeADirectory(t *testing.T) {
	c := cache(folder(1, "d", 2), file(1, "f", 3), link(1, "ld", 4, "d/"), link(1, "lf", 5, "f/"), link(1, "lp", 6, "f/."), link(2, "up", 7, "../f"), link(1, "two", 8, "one"), link(1, "one", 9, "f/"), link(1, "ldl", 10, "ld2/"), link(1, "ld2", 11, "d"))
	d, f, up := key(1, "d"), key(1, "f"), key(2, "up")
	all(t, c, nil,
		walked{"/ld", true, 3, finds(folder(1, "d", 2).Node, key(1, "ld"), d)},
		walked{"/lf", true, 3, fails(api.ErrNotDir, key(1, "lf"), f)},
		walked{"/lp", true, 3, fails(api.ErrNotDir, key(1, "lp"), f)},
		walked{"/two", true, 3, fails(api.ErrNotDir, key(1, "two"), key(1, "one"), f)},
		// In the middle it says nothing of what is behind: a link there is stood at, a file is no fault.
		walked{"/ld/up", false, 3, finds(link(2, "up", 7, "../f").Node, key(1, "ld"), d, up)},
		walked{"/ld/up", true, 3, finds(file(1, "f", 3).Node, key(1, "ld"), d, up, f)},
		walked{"/ld/up/", false, 3, fails(api.ErrNotDir, key(1, "ld"), d, up, f)},
		// The target is to be a directory: a link at its end is met, too.
		walked{"/ldl", true, 2, finds(folder(1, "d", 2).Node, key(1, "ldl"), key(1, "ld2"), d)},
		walked{"/ldl", false, 2, finds(link(1, "ldl", 10, "ld2/").Node, key(1, "ldl"))},
		walked{"/ldl/", false, 2, finds(folder(1, "d", 2).Node, key(1, "ldl"), key(1, "ld2"), d)},
		walked{"/ldl/..", false, 2, finds(root(), key(1, "ldl"), key(1, "ld2"), d)},
	)
	// dir stays true, whatever the target's is.
	all(t, c, nil, walked{"/ld2/", true, 3, finds(folder(1, "d", 2).Node, key(1, "ld2"), d)}, walked{"/two/", false, 3, fails(api.ErrNotDir, key(1, "two"), key(1, "one"), f)})
	c.Put(link(1, "g", 12, "f"))
	both(t, c, nil, walked{"/g/", false, 3, fails(api.ErrNotDir, key(1, "g"), f)})
}

// A target's components are taken from where the link is, or from the root.
func TestTargets(t *testing.T) {
	a, b, l := key(1, "a"), key(2, "b"), key(3, "l")
	below := []api.Entry{folder(1, "a", 2), folder(2, "b", 3), file(3, "x", 10), file(2, "x", 11), file(1, "x", 12)}
	for _, row := range []struct {
		target string
		want   api.Out
	}{
		{"x", finds(file(3, "x", 10).Node, a, b, l, key(3, "x"))},
		{"./x", finds(file(3, "x", 10).Node, a, b, l, key(3, "x"))},
		{"../x", finds(file(2, "x", 11).Node, a, b, l, key(2, "x"))},
		{".././/../x", finds(file(1, "x", 12).Node, a, b, l, key(1, "x"))},
		{"../../../../x", finds(file(1, "x", 12).Node, a, b, l, key(1, "x"))},
		{"/x", finds(file(1, "x", 12).Node, a, b, l, key(1, "x"))},
		{"//../x", finds(file(1, "x", 12).Node, a, b, l, key(1, "x"))},
		{"/a/x", finds(file(2, "x", 11).Node, a, b, l, a, key(2, "x"))},
		{"/a/b/../x", finds(file(2, "x", 11).Node, a, b, l, a, b, key(2, "x"))},
		{".", finds(folder(2, "b", 3).Node, a, b, l)},
		{"..", finds(folder(1, "a", 2).Node, a, b, l)},
		{"../b", finds(folder(2, "b", 3).Node, a, b, l, b)},
		{"../..", finds(root(), a, b, l)},
		{"/", finds(root(), a, b, l)},
		{"//", finds(root(), a, b, l)},
		{"/..", finds(root(), a, b, l)},
		{"y", needs(key(3, "y"), a, b, l)},
		{"/y/z", needs(key(1, "y"), a, b, l)},
		{"../y", needs(key(2, "y"), a, b, l)},
		{"x/", fails(api.ErrNotDir, a, b, l, key(3, "x"))},
		{"x/y", fails(api.ErrNotDir, a, b, l, key(3, "x"))},
	} {
		c := cache(append(below, link(3, "l", 4, row.target))...)
		all(t, c, nil, walked{"/a/b/l", true, 1, row.want}, walked{"/a/b/l", false, 0, finds(link(3, "l", 4, row.target).Node, a, b, l)})
	}
}

// Behind a link in the middle the walk goes on, from where the target came to.
func TestLinkInTheMiddle(t *testing.T) {
	a, l := key(1, "a"), key(2, "l")
	below := []api.Entry{folder(1, "a", 2), folder(1, "o", 3), file(1, "f", 4), file(3, "x", 5), file(2, "x", 6), file(1, "x", 7), folder(3, "p", 8)}
	o := key(1, "o")
	for _, row := range []struct {
		target, rest string
		want         api.Out
	}{
		{"../o", "/x", finds(file(3, "x", 5).Node, a, l, o, key(3, "x"))},
		{"/o", "/x", finds(file(3, "x", 5).Node, a, l, o, key(3, "x"))},
		{"/o/", "/x", finds(file(3, "x", 5).Node, a, l, o, key(3, "x"))},
		{"/o", "/..", finds(root(), a, l, o)},
		{"/o", "/../x", finds(file(1, "x", 7).Node, a, l, o, key(1, "x"))},
		{"/o/p", "/../x", finds(file(3, "x", 5).Node, a, l, o, key(3, "p"), key(3, "x"))},
		{".", "/x", finds(file(2, "x", 6).Node, a, l, key(2, "x"))},
		{".", "/..", finds(root(), a, l)},
		{"..", "/x", finds(file(1, "x", 7).Node, a, l, key(1, "x"))},
		{"/", "/x", finds(file(1, "x", 7).Node, a, l, key(1, "x"))},
		{"/", "/../../x", finds(file(1, "x", 7).Node, a, l, key(1, "x"))},
		{"/", "/..", finds(root(), a, l)},
		{"/f", "/x", fails(api.ErrNotDir, a, l, key(1, "f"))},
		{"/f", "/.", fails(api.ErrNotDir, a, l, key(1, "f"))},
		{"/f", "/..", fails(api.ErrNotDir, a, l, key(1, "f"))},
		{"/o/y", "/x", needs(key(3, "y"), a, l, o)},
		{"/o", "/y", needs(key(3, "y"), a, l, o)},
	} {
		both(t, cache(append(below, link(2, "l", 9, row.target))...), nil, walked{"/a/l" + row.rest, false, 1, row.want})
		both(t, cache(append(below, link(2, "l", 9, row.target))...), nil, walked{"/a/l" + row.rest, false, 0, fails(api.ErrLoop, a, l)})
	}
}

// A target that Target refuses: its error, if the link is met, behind ErrLoop.
func TestTargetsThatAreRefused(t *testing.T) {
	l := key(1, "l")
	for target, e := range map[string]api.Errno{
		"":                                     api.ErrPath,
		"\x00":                                 api.ErrPath,
		"/x\x00/y":                             api.ErrPath,
		strings.Repeat("x", api.MaxName+1):     api.ErrNameTooLong,
		"/x/" + strings.Repeat("x", 13) + "/y": api.ErrNameTooLong,
		strings.Repeat("x", api.MaxPath+1):     api.ErrPathTooLong,
		strings.Repeat("/", api.MaxPath+1):     api.ErrPathTooLong,
		strings.Repeat("x/", api.MaxPath) + "\x00": api.ErrPathTooLong,
	} {
		c := set(cache(link(1, "l", 4, target), link(1, "m", 5, "l")), 1)
		all(t, c, nil,
			walked{"/l", false, 1, finds(link(1, "l", 4, target).Node, l)},
			walked{"/l", true, 1, fails(e, l)},
			walked{"/l", true, 0, fails(api.ErrLoop, l)},
			walked{"/l/", false, 1, fails(e, l)},
			walked{"/l/", false, 0, fails(api.ErrLoop, l)},
			walked{"/m", true, 2, fails(e, key(1, "m"), l)},
			walked{"/m", true, 1, fails(api.ErrLoop, key(1, "m"), l)},
		)
		both(t, c, nil, walked{"/l/x", false, 8, fails(e, l)}, walked{"/l/..", false, 8, fails(e, l)}, walked{"/m/x", false, 8, fails(e, key(1, "m"), l)}, walked{"/l/x", false, 0, fails(api.ErrLoop, l)})
	}
	// What is just not too long is taken.
	most := strings.Repeat("/", api.MaxPath-api.MaxName) + strings.Repeat("x", api.MaxName)
	both(t, cache(link(1, "l", 4, most)), nil, walked{"/l/y", false, 1, needs(key(1, strings.Repeat("x", api.MaxName)), l)})
}

// Of a path with links as many components may come up as eight targets have: no limit of a path holds for them together.
func TestLongTargets(t *testing.T) {
	d, l := key(1, "d"), key(1, "l")
	target := strings.Repeat("/d/..", 18) + "/l"
	c := cache(folder(1, "d", 2), link(1, "l", 3, target))
	var used []api.Key
	for range api.MaxLinks {
		used = append(append(used, l), times(d, 18)...)
	}
	want := fails(api.ErrLoop, append(used, l)...)
	both(t, c, nil, walked{"/l/x", false, 8, want}, walked{"/l/", false, 8, want})
	var steps []string
	used = nil
	for range 5000 {
		steps = append(steps, "d", ".", "..")
		used = append(used, d)
	}
	comes(t, "many steps", walk.Steps(c, nil, steps, true, true, 8), finds(root(), used...))
	comes(t, "many steps", walk.Steps(c, nil, append(steps, "l"), false, false, 8), finds(link(1, "l", 3, target).Node, append(used, l)...))
}
