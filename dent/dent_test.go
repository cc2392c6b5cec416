package dent_test

import (
	"math"
	"slices"
	"strconv"
	"testing"

	"vista/api"
	"vista/dent"
)

func key(dir int, name string) api.Key {
	return api.Key{Dir: dir, Name: name}
}

// folder, file and link are entries of such a node.
func folder(dir int, name string, id int) api.Entry {
	return api.Entry{Key: key(dir, name), Node: api.Node{ID: id, Kind: api.KindDir, Mode: 7}}
}

func file(dir int, name string, id int) api.Entry {
	return api.Entry{Key: key(dir, name), Node: api.Node{ID: id, Kind: api.KindFile, Mode: 3}}
}

func link(dir int, name string, id int, target string) api.Entry {
	return api.Entry{Key: key(dir, name), Node: api.Node{ID: id, Kind: api.KindLink, Target: target}}
}

// none is the entry of a name that is nothing.
func none(dir int, name string) api.Entry {
	return api.Entry{Key: key(dir, name), Neg: true}
}

// cache is a new cache into which entries were put, one by one.
func cache(t *testing.T, entries ...api.Entry) *dent.Cache {
	t.Helper()
	c := dent.New()
	if c == nil {
		t.Fatal("New: nil")
	}
	for _, e := range entries {
		puts(t, c, e)
	}
	return c
}

func puts(t *testing.T, c *dent.Cache, e api.Entry) {
	t.Helper()
	if got := c.Put(e); got != api.OK {
		t.Errorf("Put(%v): %d", e, got)
	}
}

// has fails if just these entries are not there, in this order of use; it looks at all that tells it.
func has(t *testing.T, what string, c *dent.Cache, want ...api.Entry) {
	t.Helper()
	if got := c.Entries(); !slices.Equal(got, want) {
		t.Errorf("%s: entries %v, not %v", what, got, want)
	}
	negatives := 0
	for _, e := range want {
		if e.Neg {
			negatives++
		}
		tells(t, what, c, e)
	}
	if c.Len() != len(want) || c.Negatives() != negatives {
		t.Errorf("%s: %d entries, %d of them Neg, not %d and %d", what, c.Len(), c.Negatives(), len(want), negatives)
	}
}

// tells fails if an entry is not what its key is.
func tells(t *testing.T, what string, c *dent.Cache, want api.Entry) {
	t.Helper()
	if got, ok := c.Get(want.Key); !ok || got != want {
		t.Errorf("%s: Get(%v): %v, %v, not %v", what, want.Key, got, ok, want)
	}
}

// lacks fails if one of these keys is there, by any call that asks for it.
func lacks(t *testing.T, what string, c *dent.Cache, keys ...api.Key) {
	t.Helper()
	before := c.Entries()
	for _, k := range keys {
		if got, ok := c.Get(k); ok || got != (api.Entry{}) {
			t.Errorf("%s: Get(%v): %v, %v", what, k, got, ok)
		}
		if c.Use(k) || c.Evict(k) || c.Leaf(k) {
			t.Errorf("%s: %v is there", what, k)
		}
	}
	if after := c.Entries(); !slices.Equal(before, after) {
		t.Errorf("%s: %v became %v", what, before, after)
	}
}

// names fails if a directory has others than these entries that are not Neg.
func names(t *testing.T, c *dent.Cache, dir int, want ...api.Entry) {
	t.Helper()
	if got := c.Names(dir); !slices.Equal(got, want) {
		t.Errorf("Names(%d): %v, not %v", dir, got, want)
	}
}

// wholes fails if of the directories of dirs just those of want are not whole.
func wholes(t *testing.T, what string, c *dent.Cache, dirs []int, want ...int) {
	t.Helper()
	for _, dir := range dirs {
		if c.Whole(dir) != slices.Contains(want, dir) {
			t.Errorf("%s: Whole(%d): %v", what, dir, c.Whole(dir))
		}
	}
}

// oddKeys are keys with unlike numbers and texts, each with a name.
func oddKeys() []api.Key {
	var all []api.Key
	for _, dir := range []int{math.MinInt, -1, 0, 1, 2, 1 << 40, math.MaxInt} {
		for _, called := range []string{"a", "A", "aa", ".", "..", "/", "a/b", "\x00", "\xff", "\xc3\xa9", "longer than any name may be in a tree", " "} {
			all = append(all, key(dir, called))
		}
	}
	return all
}

// The chapter's examples.
func TestExamples(t *testing.T) {
	a, b, c3 := folder(1, "a", 2), none(2, "b"), folder(1, "c", 3)
	c := cache(t, a, b, c3)
	if c.Leaf(a.Key) || !c.Leaf(b.Key) || !c.Leaf(c3.Key) {
		t.Errorf("Leaf: %v, %v, %v", c.Leaf(a.Key), c.Leaf(b.Key), c.Leaf(c3.Key))
	}
	has(t, "Put", c, a, b, c3)
	if !c.Use(a.Key) {
		t.Error("Use: false")
	}
	has(t, "Use", c, b, c3, a)
	c.SetWhole(2)
	if !c.Evict(b.Key) {
		t.Error("Evict: false")
	}
	has(t, "Evict", c, c3, a)
	wholes(t, "Evict", c, []int{0, 1, 2, 3}, 2)
	c.Cut([]api.Key{key(1, "")})
	has(t, "Cut", c)
	wholes(t, "Cut", c, []int{0, 1, 2, 3}, 2)
}

// P12.1

func TestNew(t *testing.T) {
	c := cache(t)
	has(t, "New", c)
	lacks(t, "New", c, oddKeys()...)
	lacks(t, "New", c, api.Key{}, key(1, ""))
	for _, k := range oddKeys() {
		names(t, c, k.Dir)
		wholes(t, "New", c, []int{k.Dir})
	}
}

func TestPutRefusesAnEmptyName(t *testing.T) {
	for _, filled := range [][]api.Entry{nil, {folder(1, "a", 2), none(0, "b"), file(2, "c", 3)}} {
		c := cache(t, filled...)
		c.SetWhole(1)
		for _, e := range []api.Entry{
			{}, folder(1, "", 2), none(1, ""), file(0, "", 0), none(0, ""), link(2, "", 9, "x"), folder(-1, "", 1), none(math.MaxInt, ""),
		} {
			if got := c.Put(e); got != api.ErrArg {
				t.Errorf("Put(%v): %d", e, got)
			}
			has(t, "refused", c, filled...)
			lacks(t, "refused", c, e.Key)
			wholes(t, "refused", c, []int{-1, 0, 1, 2, math.MaxInt}, 1)
		}
	}
}

func TestPutTakesWhateverHasAName(t *testing.T) {
	c := cache(t)
	var want []api.Entry
	for i, k := range oddKeys() {
		e := api.Entry{Key: k, Neg: i%3 == 0, Node: api.Node{ID: k.Dir, Kind: i - 9, Mode: -i, Target: k.Name + "/\xff"}}
		puts(t, c, e)
		want = append(want, e)
		has(t, "Put", c, want...)
	}
}

func TestKeysAreToldApart(t *testing.T) {
	c := cache(t, folder(1, "a", 2))
	lacks(t, "unlike", c, key(2, "a"), key(-1, "a"), key(0, "a"), key(1, "A"), key(1, "aa"), key(1, ""), key(1, "a\x00"), key(1, "a "), key(1+1<<32, "a"), api.Key{})
	has(t, "unlike", c, folder(1, "a", 2))
}

// One that was there is gone, whether it was Neg or not, and whether the new one is.
func TestPutAgain(t *testing.T) {
	forms := []api.Entry{none(1, "a"), folder(1, "a", 2), file(1, "a", 3), link(1, "a", 4, "../x"), {Key: key(1, "a"), Neg: true, Node: api.Node{ID: 5}}}
	for _, first := range forms {
		for _, second := range forms {
			c := cache(t, none(1, "z"), first, file(1, "y", 6))
			c.SetWhole(1)
			has(t, "Put", c, none(1, "z"), first, file(1, "y", 6))
			puts(t, c, second)
			has(t, "Put again", c, none(1, "z"), file(1, "y", 6), second)
			puts(t, c, second)
			has(t, "and again", c, none(1, "z"), file(1, "y", 6), second)
			wholes(t, "Put", c, []int{0, 1, 2, 3, 4, 5, 6}, 1)
		}
	}
}

func TestOrderOfUse(t *testing.T) {
	a, b, d, e := folder(1, "a", 2), none(1, "b"), file(2, "d", 3), none(2, "e")
	c := cache(t, e, a, d, b)
	has(t, "Put", c, e, a, d, b)
	for _, x := range []struct {
		k    api.Key
		want []api.Entry
	}{
		{e.Key, []api.Entry{a, d, b, e}},
		{e.Key, []api.Entry{a, d, b, e}},
		{d.Key, []api.Entry{a, b, e, d}},
		{b.Key, []api.Entry{a, e, d, b}},
		{a.Key, []api.Entry{e, d, b, a}},
		{d.Key, []api.Entry{e, b, a, d}},
	} {
		if !c.Use(x.k) {
			t.Errorf("Use(%v): false", x.k)
		}
		has(t, "Use", c, x.want...)
	}
	puts(t, c, b)
	has(t, "Put again", c, e, a, d, b)
	// What is gone and comes back is used last, as if it had never been there.
	c.Evict(e.Key)
	c.Cut([]api.Key{a.Key})
	has(t, "gone", c, d, b)
	puts(t, c, a)
	puts(t, c, e)
	has(t, "back", c, d, b, a, e)
	c.Clear()
	puts(t, c, d)
	puts(t, c, a)
	has(t, "behind Clear", c, d, a)
}

// What only tells is no use: neither Get nor the others change the order.
func TestTellingIsNoUse(t *testing.T) {
	a, b, d := folder(1, "a", 2), none(1, "b"), file(2, "d", 3)
	c := cache(t, a, b, d)
	for range 3 {
		c.Get(a.Key)
		c.Leaf(a.Key)
		c.Names(1)
		c.Whole(1)
		c.Len()
		c.Negatives()
		c.SetWhole(1)
		has(t, "told", c, a, b, d)
	}
}

func TestUse(t *testing.T) {
	c := cache(t, folder(1, "a", 2))
	lacks(t, "Use", c, key(1, "b"), key(2, "a"), key(1, ""), api.Key{})
	if !c.Use(key(1, "a")) {
		t.Error("Use: false")
	}
	has(t, "Use", c, folder(1, "a", 2))
	c.SetWhole(1)
	c.Use(key(1, "a"))
	c.Use(key(1, "b"))
	wholes(t, "Use", c, []int{0, 1, 2}, 1)
	c.Evict(key(1, "a"))
	lacks(t, "evicted", c, key(1, "a"))
}

func TestNames(t *testing.T) {
	c := cache(t,
		file(1, "b", 3), none(1, "ab"), file(1, "\xff", 4), file(2, "a", 5), folder(1, "a", 2), link(1, "aa", 6, "b"),
		none(3, "x"), none(3, "y"), file(1, "B", 7), file(1, "\x00", 8), file(1, "\xc3\xa9", 9), file(1, "a\x00", 10), file(0, "o", 11), file(-1, "n", 12))
	names(t, c, 1, file(1, "\x00", 8), file(1, "B", 7), folder(1, "a", 2), file(1, "a\x00", 10), link(1, "aa", 6, "b"), file(1, "b", 3), file(1, "\xc3\xa9", 9), file(1, "\xff", 4))
	names(t, c, 2, file(2, "a", 5))
	names(t, c, 3)
	names(t, c, 4)
	names(t, c, 0, file(0, "o", 11))
	names(t, c, -1, file(-1, "n", 12))
	// The order of use is nothing to it, nor whether the directory is whole.
	c.Use(key(1, "\x00"))
	c.SetWhole(2)
	names(t, c, 2, file(2, "a", 5))
	puts(t, c, none(1, "a"))
	puts(t, c, file(1, "ab", 13))
	c.Evict(key(1, "\xff"))
	c.Cut([]api.Key{key(1, "b")})
	names(t, c, 1, file(1, "\x00", 8), file(1, "B", 7), file(1, "a\x00", 10), link(1, "aa", 6, "b"), file(1, "ab", 13), file(1, "\xc3\xa9", 9))
	c.Clear()
	names(t, c, 1)
}

// A cache has no limit of its own.
func TestManyEntries(t *testing.T) {
	const most = 3000
	c := cache(t)
	var want []api.Entry
	for i := range most {
		e := file(i%50, strconv.Itoa(i), i)
		e.Neg = i%7 == 0
		puts(t, c, e)
		want = append(want, e)
	}
	has(t, "Put", c, want...)
	for i := 0; i < most; i += 2 {
		if !c.Use(want[i].Key) {
			t.Fatalf("Use(%v): false", want[i].Key)
		}
	}
	var odd, even []api.Entry
	for i, e := range want {
		if i%2 == 0 {
			even = append(even, e)
		} else {
			odd = append(odd, e)
		}
	}
	has(t, "Use", c, slices.Concat(odd, even)...)
	for _, e := range odd {
		if !c.Evict(e.Key) {
			t.Fatalf("Evict(%v): false", e.Key)
		}
	}
	has(t, "Evict", c, even...)
	c.Clear()
	has(t, "Clear", c)
}
