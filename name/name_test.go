package name_test

import (
	"slices"
	"strings"
	"testing"

	"vista/api"
	"vista/name"
)

// whatever are names that Check takes, among them bytes that are no text and runes of several bytes.
func whatever() []string {
	return []string{
		"a", "A", " ", "-", "%", "\\", "\n", "\x01", "\x7f", "\x80", "\xff", "\xc0\xaf", "\xe2\x82", "é", "€", "𝄞",
		"...", "....", ".a", "..a", "a.", "a..", "a.b", ". ", " ..", "\uff0f", "\u2044", "\ufffd",
		long('x', api.MaxName), long('.', api.MaxName), long(0xff, api.MaxName), strings.Repeat("é", 6), strings.Repeat("𝄞", 3),
	}
}

// long is a text of n bytes.
func long(b byte, n int) string {
	return strings.Repeat(string([]byte{b}), n)
}

// full is a path of n bytes whose components are not too long.
func full(n int) string {
	return strings.Repeat("/abcdefg", n/8+1)[:n]
}

// P2.1

func TestCheckTakes(t *testing.T) {
	for _, n := range whatever() {
		if e := name.Check(n); e != api.OK {
			t.Errorf("Check(%q) = %d", n, e)
		}
	}
	for b := range 256 {
		want := api.OK
		if b == 0 || b == '/' || b == '.' {
			want = api.ErrName
		}
		if e := name.Check(string([]byte{byte(b)})); e != want {
			t.Errorf("Check of the byte %d: %d", b, e)
		}
	}
}

func TestCheckRefuses(t *testing.T) {
	for _, n := range []string{
		"", ".", "..", "/", "//", "a/b", "/a", "a/", "./", "../", "\x00", "a\x00", "\x00a", "a\x00b", "..\x00", "a/\x00",
		"\xff/", "\xe2\x82/", "\xe2/\x82", "\xe2\x00\x82", "\xf0\x9d\x84\x00", "é/", long('/', api.MaxName), long(0, api.MaxName),
		long('x', api.MaxName-1) + "/", long('x', api.MaxName-1) + "\x00",
	} {
		if e := name.Check(n); e != api.ErrName {
			t.Errorf("Check(%q) = %d", n, e)
		}
	}
}

func TestCheckOfTooLongNames(t *testing.T) {
	for _, n := range []string{
		long('x', api.MaxName+1), long('/', api.MaxName+1), long(0, api.MaxName+1), long('.', api.MaxName+1), long(0xff, api.MaxName+1),
		strings.Repeat("é", 6) + "x", strings.Repeat("é", 7), strings.Repeat("𝄞", 4), long('x', api.MaxPath+1), long('x', 1<<16),
	} {
		if e := name.Check(n); e != api.ErrNameTooLong {
			t.Errorf("Check(%q) = %d", n, e)
		}
	}
}

// P2.2 and P2.3

// pathCase is a path that begins with a slash: Split and Target answer it alike.
type pathCase struct {
	path  string
	steps []string
	dir   bool
	e     api.Errno
}

func paths() []pathCase {
	return []pathCase{
		{"/a", []string{"a"}, false, api.OK},
		{"/a/b/c", []string{"a", "b", "c"}, false, api.OK},
		{"//a/./b", []string{"a", ".", "b"}, false, api.OK},
		{"/", nil, true, api.OK},
		{"//", nil, true, api.OK},
		{"/a/", []string{"a"}, true, api.OK},
		{"/a//", []string{"a"}, true, api.OK},
		{"/a//b", []string{"a", "b"}, false, api.OK},
		{"/.", []string{"."}, true, api.OK},
		{"/..", []string{".."}, true, api.OK},
		{"/./", []string{"."}, true, api.OK},
		{"/a/..", []string{"a", ".."}, true, api.OK},
		{"/a/.", []string{"a", "."}, true, api.OK},
		{"/../a", []string{"..", "a"}, false, api.OK},
		{"/../../", []string{"..", ".."}, true, api.OK},
		{"/...", []string{"..."}, false, api.OK},
		{"/a/..b", []string{"a", "..b"}, false, api.OK},
		{"/.a/a.", []string{".a", "a."}, false, api.OK},
		{"/a/a", []string{"a", "a"}, false, api.OK},
		{"/\xff/\xe2\x82/é", []string{"\xff", "\xe2\x82", "é"}, false, api.OK},
		{"/\xe2/\x82/", []string{"\xe2", "\x82"}, true, api.OK},
		{"/a\xf0\x9d\x84", []string{"a\xf0\x9d\x84"}, false, api.OK},
		{"/\uff0f/\ufffd", []string{"\uff0f", "\ufffd"}, false, api.OK},
		{"/ /\n", []string{" ", "\n"}, false, api.OK},
		{"/" + long('x', api.MaxName), []string{long('x', api.MaxName)}, false, api.OK},
		{"/" + long('x', api.MaxName) + "/" + long('y', api.MaxName) + "/", []string{long('x', api.MaxName), long('y', api.MaxName)}, true, api.OK},
		{"/" + strings.Repeat("é", 6), []string{strings.Repeat("é", 6)}, false, api.OK},
		{long('/', api.MaxPath), nil, true, api.OK},
		{long('/', api.MaxPath-1) + "a", []string{"a"}, false, api.OK},
		{"/a" + long('/', api.MaxPath-2), []string{"a"}, true, api.OK},
		{full(api.MaxPath), slices.Repeat([]string{"abcdefg"}, 12), false, api.OK},
		{strings.Repeat("/a", api.MaxPath/2), slices.Repeat([]string{"a"}, api.MaxPath/2), false, api.OK},

		{"/\x00", nil, false, api.ErrPath},
		{"/a\x00", nil, false, api.ErrPath},
		{"/a/\x00/b", nil, false, api.ErrPath},
		{"/\xe2\x00", nil, false, api.ErrPath},
		{long('/', api.MaxPath-1) + "\x00", nil, false, api.ErrPath},
		{"/" + long('x', api.MaxName+1) + "\x00", nil, false, api.ErrPath},
		{"/" + long('x', api.MaxName+1) + "/\x00", nil, false, api.ErrPath},

		{"/" + long('x', api.MaxName+1), nil, false, api.ErrNameTooLong},
		{"/" + long('x', api.MaxName+1) + "/a", nil, false, api.ErrNameTooLong},
		{"/a/" + long('x', api.MaxName+1) + "/", nil, false, api.ErrNameTooLong},
		{"/a/" + long('x', api.MaxName+1) + "/..", nil, false, api.ErrNameTooLong},
		{"/" + strings.Repeat("é", 7), nil, false, api.ErrNameTooLong},
		{"/" + long(0xff, api.MaxName+1), nil, false, api.ErrNameTooLong},
		{"/" + long('.', api.MaxName+1), nil, false, api.ErrNameTooLong},
		{"/" + long('x', api.MaxPath-1), nil, false, api.ErrNameTooLong},

		{long('/', api.MaxPath+1), nil, false, api.ErrPathTooLong},
		{full(api.MaxPath) + "/", nil, false, api.ErrPathTooLong},
		{full(api.MaxPath + 1), nil, false, api.ErrPathTooLong},
		{"/" + long('x', api.MaxPath), nil, false, api.ErrPathTooLong},
		{"/" + long(0, api.MaxPath), nil, false, api.ErrPathTooLong},
		{"/" + strings.Repeat("/é", api.MaxPath/3) + "/", nil, false, api.ErrPathTooLong},
		{full(1 << 16), nil, false, api.ErrPathTooLong},
	}
}

func TestSplit(t *testing.T) {
	for _, x := range paths() {
		if steps, dir, e := name.Split(x.path); !slices.Equal(steps, x.steps) || dir != x.dir || e != x.e {
			t.Errorf("Split(%q) = %q, %v, %d", x.path, steps, dir, e)
		}
	}
}

func TestSplitOfPathsThatBeginOtherwise(t *testing.T) {
	for _, x := range []struct {
		path string
		e    api.Errno
	}{
		{"", api.ErrPath}, {"a", api.ErrPath}, {"a/", api.ErrPath}, {"a/b", api.ErrPath}, {".", api.ErrPath}, {"..", api.ErrPath},
		{"./a", api.ErrPath}, {" /a", api.ErrPath}, {"\x00", api.ErrPath}, {"\x00/a", api.ErrPath}, {"\xff/", api.ErrPath},
		{"\uff0fa", api.ErrPath}, {long('x', api.MaxName+1), api.ErrPath}, {long('x', api.MaxPath), api.ErrPath},
		{long('x', api.MaxPath+1), api.ErrPathTooLong}, {long(0, api.MaxPath+1), api.ErrPathTooLong},
	} {
		if steps, dir, e := name.Split(x.path); len(steps) != 0 || dir || e != x.e {
			t.Errorf("Split(%q) = %q, %v, %d", x.path, steps, dir, e)
		}
	}
}

func TestTargetFromTheRoot(t *testing.T) {
	for _, x := range paths() {
		ok := x.e == api.OK
		if steps, whole, dir, e := name.Target(x.path); !slices.Equal(steps, x.steps) || whole != ok || dir != x.dir || e != x.e {
			t.Errorf("Target(%q) = %q, %v, %v, %d", x.path, steps, whole, dir, e)
		}
	}
}

func TestTargetFromWhereTheLinkIs(t *testing.T) {
	for _, x := range []pathCase{
		{"a", []string{"a"}, false, api.OK},
		{"../x", []string{"..", "x"}, false, api.OK},
		{"a/", []string{"a"}, true, api.OK},
		{"a//b", []string{"a", "b"}, false, api.OK},
		{".", []string{"."}, true, api.OK},
		{"..", []string{".."}, true, api.OK},
		{"./", []string{"."}, true, api.OK},
		{"a/..", []string{"a", ".."}, true, api.OK},
		{"...", []string{"..."}, false, api.OK},
		{"\xff", []string{"\xff"}, false, api.OK},
		{"\uff0fa", []string{"\uff0fa"}, false, api.OK},
		{"\xe2\x82/x", []string{"\xe2\x82", "x"}, false, api.OK},
		{long('x', api.MaxName), []string{long('x', api.MaxName)}, false, api.OK},
		{"a" + full(api.MaxPath-1), append([]string{"a"}, append(slices.Repeat([]string{"abcdefg"}, 11), "abcdef")...), false, api.OK},
		{"", nil, false, api.ErrPath},
		{"\x00", nil, false, api.ErrPath},
		{"\x00/", nil, false, api.ErrPath},
		{"a\x00b", nil, false, api.ErrPath},
		{long('x', api.MaxName+1) + "\x00", nil, false, api.ErrPath},
		{long('x', api.MaxName+1), nil, false, api.ErrNameTooLong},
		{long('x', api.MaxName+1) + "/", nil, false, api.ErrNameTooLong},
		{"a/" + long('x', api.MaxName+1), nil, false, api.ErrNameTooLong},
		{long('x', api.MaxPath), nil, false, api.ErrNameTooLong},
		{long('x', api.MaxPath+1), nil, false, api.ErrPathTooLong},
		{long(0, api.MaxPath+1), nil, false, api.ErrPathTooLong},
		{"a" + full(api.MaxPath), nil, false, api.ErrPathTooLong},
	} {
		if steps, whole, dir, e := name.Target(x.path); !slices.Equal(steps, x.steps) || whole || dir != x.dir || e != x.e {
			t.Errorf("Target(%q) = %q, %v, %v, %d", x.path, steps, whole, dir, e)
		}
	}
}

// P2.4

func TestParent(t *testing.T) {
	for _, x := range []struct {
		path  string
		steps []string
		last  string
	}{
		{"/b", nil, "b"}, {"/b/", nil, "b"}, {"//b//", nil, "b"}, {"/a/b", []string{"a"}, "b"}, {"/a/b/", []string{"a"}, "b"},
		{"/a/b/c", []string{"a", "b"}, "c"}, {"/../b", []string{".."}, "b"}, {"/./b/", []string{"."}, "b"}, {"/a/...", []string{"a"}, "..."},
		{"/\xff/\xe2\x82", []string{"\xff"}, "\xe2\x82"}, {"/" + long('x', api.MaxName), nil, long('x', api.MaxName)},
		{full(api.MaxPath), slices.Repeat([]string{"abcdefg"}, 11), "abcdefg"},
	} {
		if steps, last, e := name.Parent(x.path); !slices.Equal(steps, x.steps) || last != x.last || e != api.OK {
			t.Errorf("Parent(%q) = %q, %q, %d", x.path, steps, last, e)
		}
	}
}

func TestParentOfWhatHasNoLastName(t *testing.T) {
	for _, path := range []string{
		"/", "//", "/.", "/..", "/./", "/../", "/a/.", "/a/..", "/a/./", "/a/..//", "/../..", long('/', api.MaxPath),
	} {
		if steps, last, e := name.Parent(path); len(steps) != 0 || last != "" || e != api.ErrName {
			t.Errorf("Parent(%q) = %q, %q, %d", path, steps, last, e)
		}
	}
}

func TestParentHasTheErrorOfSplit(t *testing.T) {
	for _, x := range []struct {
		path string
		e    api.Errno
	}{
		{"", api.ErrPath}, {"b", api.ErrPath}, {"..", api.ErrPath}, {"a/b", api.ErrPath}, {"/\x00", api.ErrPath}, {"/a/..\x00", api.ErrPath},
		{"/a\x00/..", api.ErrPath}, {"/" + long('x', api.MaxName+1), api.ErrNameTooLong},
		{"/" + long('x', api.MaxName+1) + "/..", api.ErrNameTooLong}, {"/" + long('x', api.MaxName+1) + "/b", api.ErrNameTooLong},
		{long('/', api.MaxPath+1), api.ErrPathTooLong}, {full(api.MaxPath) + "/", api.ErrPathTooLong},
		{long('x', api.MaxPath+1), api.ErrPathTooLong},
	} {
		if steps, last, e := name.Parent(x.path); len(steps) != 0 || last != "" || e != x.e {
			t.Errorf("Parent(%q) = %q, %q, %d", x.path, steps, last, e)
		}
	}
}

// P2.5

// lists are lists of components whose paths are not too long.
func lists() [][]string {
	all := [][]string{nil, {"."}, {".."}, {"a", "..", "b", "."}, {"a", "a", "a", "a"}, {"..", "...", "x"}}
	for _, n := range whatever() {
		all = append(all, []string{n}, []string{n, "b"}, []string{"..", n}, []string{n, ".", n})
	}
	return all
}

func TestJoinedComponentsAreSplitAgain(t *testing.T) {
	for _, list := range lists() {
		path := "/" + strings.Join(list, "/")
		steps, _, e := name.Split(path)
		if !slices.Equal(steps, list) || e != api.OK {
			t.Fatalf("Split(%q) = %q, %d", path, steps, e)
		}
		again, _, e := name.Split("/" + strings.Join(steps, "/"))
		if !slices.Equal(again, steps) || e != api.OK {
			t.Errorf("%q are split again into %q, %d", steps, again, e)
		}
	}
}

func TestMoreSlashesTurnNoComponent(t *testing.T) {
	for _, list := range lists() {
		for n := range 5 {
			more := long('/', n+1)
			for _, behind := range []string{"", "/", more} {
				path := more + strings.Join(list, more) + behind
				if steps, _, e := name.Split(path); !slices.Equal(steps, list) || e != api.OK {
					t.Errorf("Split(%q) = %q, %d", path, steps, e)
				}
				if steps, whole, _, e := name.Target(path); !slices.Equal(steps, list) || !whole || e != api.OK {
					t.Errorf("Target(%q) = %q, %v, %d", path, steps, whole, e)
				}
			}
		}
	}
}

// everyText calls use with each text of at most n of these pieces.
func everyText(n int, use func(string)) {
	pieces := []string{"/", ".", "a", "\x00", "\xe2", "\x82", long('x', api.MaxName)}
	texts := []string{""}
	for range n + 1 {
		var longer []string
		for _, text := range texts {
			use(text)
			for _, p := range pieces {
				longer = append(longer, text+p)
			}
		}
		texts = longer
	}
}

func TestComponentsAreNames(t *testing.T) {
	everyText(5, func(path string) {
		steps, _, _ := name.Split(path)
		from, _, _, _ := name.Target(path)
		for _, step := range append(steps, from...) {
			if e := name.Check(step); step != "." && step != ".." && e != api.OK {
				t.Fatalf("%q has the component %q, and Check says %d", path, step, e)
			}
		}
	})
}

func TestFacesAgree(t *testing.T) {
	everyText(5, func(path string) {
		steps, dir, e := name.Split(path)
		from, whole, end, te := name.Target(path)
		if begins := strings.HasPrefix(path, "/"); begins && (!slices.Equal(steps, from) || dir != end || e != te || whole != (e == api.OK)) {
			t.Fatalf("%q: Split %q, %v, %d; Target %q, %v, %v, %d", path, steps, dir, e, from, whole, end, te)
		}
		above, last, pe := name.Parent(path)
		if pe == api.OK && (e != api.OK || !slices.Equal(append(above, last), steps)) {
			t.Fatalf("%q: Split %q, %d; Parent %q, %q, %d", path, steps, e, above, last, pe)
		}
		if pe != api.OK && (len(above) != 0 || last != "" || e != api.OK && pe != e || e == api.OK && pe != api.ErrName) {
			t.Fatalf("%q: Split %d; Parent %q, %q, %d", path, e, above, last, pe)
		}
		if ne := name.Check(path); ne == api.OK {
			if one, _, _, e := name.Target(path); !slices.Equal(one, []string{path}) || e != api.OK {
				t.Fatalf("the name %q is as a target %q, %d", path, one, e)
			}
		}
	})
}

// R3

func TestListsAreNewMemory(t *testing.T) {
	first, _, _ := name.Split("/a/b/c")
	second, _, _ := name.Split("/a/b/c")
	third, _, _, _ := name.Target("/a/b/c")
	above, last, _ := name.Parent("/a/b/c")
	for i := range first[:cap(first)] {
		first[:cap(first)][i] = "z"
	}
	for i := range above[:cap(above)] {
		above[:cap(above)][i] = "z"
	}
	fourth, _, _ := name.Split("/a/b/c")
	want := []string{"a", "b", "c"}
	if !slices.Equal(second, want) || !slices.Equal(third, want) || !slices.Equal(fourth, want) || last != "c" {
		t.Errorf("lists that were answered have become %q, %q, %q, %q", second, third, fourth, last)
	}
}
