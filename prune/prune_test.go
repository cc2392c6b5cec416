package prune_test

import (
	"math"
	"slices"
	"testing"

	"vista/api"
	"vista/dent"
	"vista/prune"
)

func key(dir int, name string) api.Key {
	return api.Key{Dir: dir, Name: name}
}

// folder and file are entries of such a node.
func folder(dir int, name string, id int) api.Entry {
	return api.Entry{Key: key(dir, name), Node: api.Node{ID: id, Kind: api.KindDir, Mode: 7}}
}

func file(dir int, name string, id int) api.Entry {
	return api.Entry{Key: key(dir, name), Node: api.Node{ID: id, Kind: api.KindFile, Mode: 3}}
}

// none is the entry of a name that is nothing.
func none(dir int, name string) api.Entry {
	return api.Entry{Key: key(dir, name), Neg: true}
}

// cache is a new cache into which entries were put, one by one.
func cache(entries ...api.Entry) *dent.Cache {
	c := dent.New()
	for _, e := range entries {
		c.Put(e)
	}
	return c
}

// set makes directories whole in a cache.
func set(c *dent.Cache, dirs ...int) *dent.Cache {
	for _, dir := range dirs {
		c.SetWhole(dir)
	}
	return c
}

// has fails if just these entries are not there, in this order of use.
func has(t *testing.T, what string, c *dent.Cache, want ...api.Entry) {
	t.Helper()
	if got := c.Entries(); !slices.Equal(got, want) || c.Len() != len(want) {
		t.Errorf("%s: %d entries %v, not %v", what, c.Len(), got, want)
	}
}

// wholes fails if of the directories of dirs just those of want are not whole.
func wholes(t *testing.T, what string, c *dent.Cache, dirs []int, want ...int) {
	t.Helper()
	for _, dir := range dirs {
		if c.Whole(dir) != slices.Contains(want, dir) {
			t.Errorf("%s: Whole(%d): %v", what, dir, c.Whole(dir))
		}
	}
}

// victim fails if not just this key goes next; the cache is to be as it was.
func victim(t *testing.T, what string, c *dent.Cache, negative bool, want api.Key) {
	t.Helper()
	before := c.Entries()
	if got, ok := prune.Victim(c, negative); !ok || got != want {
		t.Errorf("%s: Victim(%v): %v, %v, not %v", what, negative, got, ok, want)
	}
	has(t, what, c, before...)
}

// noVictim fails if anything goes next.
func noVictim(t *testing.T, what string, c *dent.Cache, negative bool) {
	t.Helper()
	before := c.Entries()
	if got, ok := prune.Victim(c, negative); ok || got != (api.Key{}) {
		t.Errorf("%s: Victim(%v): %v, %v", what, negative, got, ok)
	}
	has(t, what, c, before...)
}

// trims fails if not just these keys go, in this order.
func trims(t *testing.T, what string, c *dent.Cache, most, negative int, want ...api.Key) {
	t.Helper()
	if got := prune.Trim(c, most, negative); !slices.Equal(got, want) {
		t.Errorf("%s: Trim(%d, %d): %v, not %v", what, most, negative, got, want)
	}
}

// example is the cache of the chapter's examples.
func example() *dent.Cache {
	return cache(folder(1, "a", 2), folder(2, "b", 3), none(2, "c"))
}

// The chapter's examples.
func TestExamples(t *testing.T) {
	c := example()
	trims(t, "example", c, 9, 0, key(2, "c"))
	has(t, "example", c, folder(1, "a", 2), folder(2, "b", 3))

	c = example()
	trims(t, "example", c, 1, 9, key(2, "b"), key(2, "c"))
	has(t, "example", c, folder(1, "a", 2))

	c = example()
	trims(t, "example", c, 0, 0, key(2, "c"), key(2, "b"), key(1, "a"))
	has(t, "example", c)
}

// P13.1

func TestVictimOfNothing(t *testing.T) {
	for _, negative := range []bool{false, true} {
		noVictim(t, "an empty cache", cache(), negative)
		// A directory that is whole is no entry.
		noVictim(t, "whole directories alone", set(cache(), 0, 1, 2), negative)
		c := cache(folder(1, "a", 2), none(1, "n"))
		c.Clear()
		noVictim(t, "a cache that was cleared", c, negative)
	}
}

func TestVictimOfNegs(t *testing.T) {
	c := cache(none(1, "b"), none(1, "a"), none(7, "c"))
	victim(t, "Neg entries alone", c, true, key(1, "b"))
	victim(t, "Neg entries alone", c, false, key(1, "b"))
	c.Use(key(1, "b"))
	victim(t, "used", c, true, key(1, "a"))
	victim(t, "used", c, false, key(1, "a"))
	c.Put(none(1, "a"))
	victim(t, "put again", c, true, key(7, "c"))
	c.Evict(key(7, "c"))
	victim(t, "evicted", c, true, key(1, "b"))
}

func TestVictimWithoutNegs(t *testing.T) {
	c := cache(file(1, "b", 4), file(1, "a", 3))
	noVictim(t, "no Neg entry", c, true)
	victim(t, "no Neg entry", c, false, key(1, "b"))
	// What a key is now counts, not what it was.
	c.Put(none(1, "a"))
	victim(t, "Neg now", c, true, key(1, "a"))
	c.Put(file(1, "a", 3))
	noVictim(t, "Neg no more", c, true)
}

// With negative other entries are passed over; without, Neg ones are not.
func TestVictimOfBoth(t *testing.T) {
	c := cache(folder(1, "d", 2), file(1, "f", 3), none(2, "n"), none(1, "m"), file(2, "g", 4))
	victim(t, "both", c, true, key(2, "n"))
	victim(t, "both", c, false, key(1, "f"))
	c.Use(key(1, "f"))
	victim(t, "a Neg one is the leaf longest unused", c, false, key(2, "n"))
	c.Use(key(2, "n"))
	victim(t, "the next Neg one", c, true, key(1, "m"))
	victim(t, "the next Neg one", c, false, key(1, "m"))
}

// The entry longest unused is no leaf.
func TestVictimIsALeaf(t *testing.T) {
	c := cache(folder(1, "a", 2), folder(2, "b", 3), folder(3, "c", 4), file(1, "z", 9))
	victim(t, "a chain", c, false, key(3, "c"))
	c.Use(key(3, "c"))
	victim(t, "a chain and a file", c, false, key(1, "z"))
	c.Cut([]api.Key{key(3, "c")})
	victim(t, "what was above is a leaf", c, false, key(2, "b"))
	// One below suffices, Neg or not.
	c.Put(none(3, "n"))
	victim(t, "a Neg one below", c, false, key(1, "z"))
	c.Evict(key(1, "z"))
	victim(t, "a Neg one below", c, false, key(3, "n"))
}

func TestVictimWhereNoneIsALeaf(t *testing.T) {
	noVictim(t, "its own directory", cache(folder(5, "a", 5)), false)
	ring := cache(folder(2, "a", 3), folder(3, "b", 4), folder(4, "c", 2))
	noVictim(t, "a ring", ring, false)
	noVictim(t, "a ring", ring, true)
	ring.Put(folder(1, "top", 2))
	noVictim(t, "one above a ring", ring, false)
	ring.Put(none(2, "n"))
	victim(t, "a Neg one below a ring", ring, false, key(2, "n"))
	victim(t, "a Neg one below a ring", ring, true, key(2, "n"))
	// A Neg entry hangs above the directory 0: no leaf, and to be had with negative all the same.
	c := cache(none(0, "n"), none(1, "m"))
	noVictim(t, "Neg entries above 0", c, false)
	victim(t, "Neg entries above 0", c, true, key(0, "n"))
}

// A Neg entry's node is nothing to it.
func TestVictimOfNegWithANode(t *testing.T) {
	odd := folder(1, "odd", 2)
	odd.Neg = true
	c := cache(odd, file(2, "f", 3))
	victim(t, "a Neg one with a node", c, true, key(1, "odd"))
	victim(t, "a Neg one with a node", c, false, key(1, "odd"))
}

// R5

func TestVictimOfAnyNumberAndText(t *testing.T) {
	for _, dir := range []int{math.MinInt, -1, 0, 1, math.MaxInt} {
		for _, called := range []string{"a", "\x00", "\xff", "..", "a/b", "longer than any name may be in a tree"} {
			c := cache(folder(7, "top", dir), folder(dir, called, 8))
			victim(t, "a file", c, false, key(dir, called))
			trims(t, "a file", c, 0, 0, key(dir, called), key(7, "top"))
			c = cache(folder(7, "top", dir), none(dir, called))
			victim(t, "a Neg one", c, true, key(dir, called))
			trims(t, "a Neg one", c, 9, 0, key(dir, called))
			has(t, "a Neg one", c, folder(7, "top", dir))
		}
	}
}
