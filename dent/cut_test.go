package dent_test

import (
	"math"
	"testing"

	"vista/api"
	"vista/dent"
)

// P12.2

// dirs are the directories of sample, and some beside them.
var dirs = []int{-1, 0, 1, 2, 3, 4, 9}

// sample are entries of three directories, some of them Neg.
func sample() []api.Entry {
	return []api.Entry{folder(1, "a", 2), none(2, "x"), file(1, "b", 3), none(1, "c"), file(2, "a", 4), none(3, "a")}
}

// filled is a cache with the sample, in which the directories 0 to 4 are whole.
func filled(t *testing.T) *dent.Cache {
	t.Helper()
	c := cache(t, sample()...)
	for dir := range 5 {
		c.SetWhole(dir)
	}
	wholes(t, "SetWhole", c, dirs, 0, 1, 2, 3, 4)
	return c
}

// but are the entries of the sample without those of some keys.
func but(keys ...api.Key) []api.Entry {
	var left []api.Entry
	for _, e := range sample() {
		gone := false
		for _, k := range keys {
			gone = gone || e.Key == k
		}
		if !gone {
			left = append(left, e)
		}
	}
	return left
}

func TestCut(t *testing.T) {
	for _, x := range []struct {
		what  string
		keys  []api.Key
		left  []api.Entry
		whole []int
	}{
		{"nil", nil, sample(), []int{0, 1, 2, 3, 4}},
		{"no keys", []api.Key{}, sample(), []int{0, 1, 2, 3, 4}},
		{"an entry", []api.Key{key(1, "b")}, but(key(1, "b")), []int{0, 2, 3, 4}},
		{"a directory's own entry", []api.Key{key(1, "a")}, but(key(1, "a")), []int{0, 2, 3, 4}},
		{"a Neg entry", []api.Key{key(2, "x")}, but(key(2, "x")), []int{0, 1, 3, 4}},
		{"the only entry", []api.Key{key(3, "a")}, but(key(3, "a")), []int{0, 1, 2, 4}},
		{"a name that is not there", []api.Key{key(1, "q")}, sample(), []int{0, 2, 3, 4}},
		{"a name of a directory with no entries", []api.Key{key(4, "a")}, sample(), []int{0, 1, 2, 3}},
		{"a name of a directory that is not whole", []api.Key{key(9, "a"), key(-1, "b")}, sample(), []int{0, 1, 2, 3, 4}},
		{"all of a directory", []api.Key{key(1, "")}, but(key(1, "a"), key(1, "b"), key(1, "c")), []int{0, 2, 3, 4}},
		{"all of one with a Neg entry", []api.Key{key(3, "")}, but(key(3, "a")), []int{0, 1, 2, 4}},
		{"all of one with no entries", []api.Key{key(4, "")}, sample(), []int{0, 1, 2, 3}},
		{"all of one that is not whole", []api.Key{key(9, "")}, sample(), []int{0, 1, 2, 3, 4}},
		{"all of 0", []api.Key{{}}, sample(), []int{1, 2, 3, 4}},
		{"several of one directory", []api.Key{key(1, "c"), key(1, "a")}, but(key(1, "a"), key(1, "c")), []int{0, 2, 3, 4}},
		{"each of one directory", []api.Key{key(2, "a"), key(2, "x")}, but(key(2, "a"), key(2, "x")), []int{0, 1, 3, 4}},
		{"one twice", []api.Key{key(1, "b"), key(1, "b")}, but(key(1, "b")), []int{0, 2, 3, 4}},
		{"a name, then all", []api.Key{key(1, "b"), key(1, "")}, but(key(1, "a"), key(1, "b"), key(1, "c")), []int{0, 2, 3, 4}},
		{"all, then a name", []api.Key{key(1, ""), key(1, "b")}, but(key(1, "a"), key(1, "b"), key(1, "c")), []int{0, 2, 3, 4}},
		{"names of several", []api.Key{key(3, "a"), key(1, "q"), key(2, "a")}, but(key(3, "a"), key(2, "a")), []int{0, 4}},
		{"all of several", []api.Key{key(2, ""), key(1, "")}, []api.Entry{none(3, "a")}, []int{0, 3, 4}},
		{"all of one, a name of another", []api.Key{key(2, ""), key(1, "a")}, but(key(2, "a"), key(2, "x"), key(1, "a")), []int{0, 3, 4}},
		{"everything", []api.Key{key(0, ""), key(1, ""), key(2, ""), key(3, ""), key(4, "")}, nil, nil},
		{"none that is like it", []api.Key{key(-1, "a"), key(math.MinInt, ""), key(math.MaxInt, "x")}, sample(), []int{0, 1, 2, 3, 4}},
	} {
		c := filled(t)
		c.Cut(x.keys)
		has(t, x.what, c, x.left...)
		wholes(t, x.what, c, dirs, x.whole...)
		c.Cut(x.keys)
		has(t, x.what+", again", c, x.left...)
		wholes(t, x.what+", again", c, dirs, x.whole...)
	}
}

// A directory that is cut does not take what lies in the directories below it.
func TestCutGoesNoDeeper(t *testing.T) {
	c := cache(t, folder(1, "a", 2), folder(2, "b", 3), file(3, "c", 4))
	for _, dir := range []int{1, 2, 3} {
		c.SetWhole(dir)
	}
	c.Cut([]api.Key{key(1, "")})
	has(t, "Cut", c, folder(2, "b", 3), file(3, "c", 4))
	wholes(t, "Cut", c, dirs, 2, 3)
	c.Cut([]api.Key{key(2, "b")})
	has(t, "Cut", c, file(3, "c", 4))
	wholes(t, "Cut", c, dirs, 3)
}

// Behind a cut a cache goes on as any other.
func TestBehindCut(t *testing.T) {
	c := filled(t)
	c.Cut([]api.Key{key(1, ""), key(3, "a")})
	lacks(t, "Cut", c, key(1, "a"), key(1, "b"), key(1, "c"), key(3, "a"))
	names(t, c, 1)
	puts(t, c, none(1, "b"))
	puts(t, c, file(3, "a", 7))
	has(t, "Put", c, none(2, "x"), file(2, "a", 4), none(1, "b"), file(3, "a", 7))
	wholes(t, "Put", c, dirs, 0, 2, 4)
	c.SetWhole(3)
	wholes(t, "SetWhole", c, dirs, 0, 2, 3, 4)
}

func TestClear(t *testing.T) {
	c := cache(t)
	c.Clear()
	has(t, "an empty one", c)
	wholes(t, "an empty one", c, dirs)

	c = filled(t)
	for range 2 {
		c.Clear()
		has(t, "Clear", c)
		wholes(t, "Clear", c, dirs)
		for _, e := range sample() {
			lacks(t, "Clear", c, e.Key)
			names(t, c, e.Key.Dir)
		}
	}

	// Nothing but directories that are whole.
	c = cache(t)
	c.SetWhole(2)
	c.Clear()
	wholes(t, "Clear", c, dirs)

	puts(t, c, file(2, "x", 9))
	c.SetWhole(3)
	has(t, "behind Clear", c, file(2, "x", 9))
	wholes(t, "behind Clear", c, dirs, 3)
}

func TestEvict(t *testing.T) {
	for _, x := range []struct {
		what  string
		k     api.Key
		there bool
		whole []int
	}{
		{"a directory", key(1, "a"), true, []int{0, 2, 3, 4}},
		{"a file", key(1, "b"), true, []int{0, 2, 3, 4}},
		{"a Neg one", key(1, "c"), true, []int{0, 1, 2, 3, 4}},
		{"a file of another directory", key(2, "a"), true, []int{0, 1, 3, 4}},
		{"a Neg one of another directory", key(2, "x"), true, []int{0, 1, 2, 3, 4}},
		{"the only one, a Neg one", key(3, "a"), true, []int{0, 1, 2, 3, 4}},
		{"none of a whole directory", key(1, "q"), false, []int{0, 1, 2, 3, 4}},
		{"none of an empty one", key(4, "a"), false, []int{0, 1, 2, 3, 4}},
		{"none of one that is not whole", key(9, "a"), false, []int{0, 1, 2, 3, 4}},
		{"all of a directory", key(1, ""), false, []int{0, 1, 2, 3, 4}},
		{"the zero key", api.Key{}, false, []int{0, 1, 2, 3, 4}},
	} {
		c := filled(t)
		if got := c.Evict(x.k); got != x.there {
			t.Errorf("%s: Evict(%v): %v", x.what, x.k, got)
		}
		has(t, x.what, c, but(x.k)...)
		wholes(t, x.what, c, dirs, x.whole...)
		// What is gone is not there a second time.
		lacks(t, x.what, c, x.k)
		wholes(t, x.what+", again", c, dirs, x.whole...)
	}
}

// Whether a name was Neg is told by the entry that is there, not by one that was.
func TestEvictOfWhatWasPutAgain(t *testing.T) {
	c := cache(t, none(1, "a"), file(1, "a", 2))
	c.SetWhole(1)
	if !c.Evict(key(1, "a")) || c.Whole(1) {
		t.Errorf("Neg, then a file: Whole(1): %v", c.Whole(1))
	}
	c = cache(t, file(1, "a", 2), none(1, "a"))
	c.SetWhole(1)
	if !c.Evict(key(1, "a")) || !c.Whole(1) {
		t.Errorf("a file, then Neg: Whole(1): %v", c.Whole(1))
	}
}

// In a directory that is not whole nothing becomes whole by what goes.
func TestEvictMakesNothingWhole(t *testing.T) {
	c := cache(t, sample()...)
	for _, e := range sample() {
		if !c.Evict(e.Key) {
			t.Errorf("Evict(%v): false", e.Key)
		}
		wholes(t, "Evict", c, dirs)
	}
	has(t, "Evict", c)
}

func TestSetWhole(t *testing.T) {
	c := cache(t, sample()...)
	c.SetWhole(1)
	wholes(t, "once", c, dirs, 1)
	c.SetWhole(1)
	wholes(t, "twice", c, dirs, 1)
	// What was set twice is taken back once.
	c.Cut([]api.Key{key(1, "q")})
	wholes(t, "Cut", c, dirs)
	c.SetWhole(9)
	wholes(t, "with no entries", c, dirs, 9)
	names(t, c, 9)
	has(t, "SetWhole", c, sample()...)

	c = cache(t)
	odd := []int{math.MinInt, -1, 0, 1, 1 << 32, math.MaxInt}
	for i, dir := range odd {
		c.SetWhole(dir)
		wholes(t, "any number", c, odd, odd[:i+1]...)
	}
	has(t, "SetWhole", c)
	for i, dir := range odd {
		c.Cut([]api.Key{key(dir, "")})
		wholes(t, "any number", c, odd, odd[i+1:]...)
	}
}

// A directory stays whole whatever is put into it or used.
func TestPutLeavesWhole(t *testing.T) {
	c := filled(t)
	puts(t, c, file(1, "new", 8))
	puts(t, c, none(1, "b"))
	puts(t, c, file(1, "c", 9))
	puts(t, c, file(9, "new", 10))
	c.Use(key(1, "a"))
	wholes(t, "Put", c, dirs, 0, 1, 2, 3, 4)
}
