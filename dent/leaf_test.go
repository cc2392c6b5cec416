package dent_test

import (
	"math"
	"testing"

	"vista/api"
	"vista/dent"
)

// P12.3

// leaves fails if of all entries just those of these keys are not leaves.
func leaves(t *testing.T, what string, c *dent.Cache, want ...api.Key) {
	t.Helper()
	for _, e := range c.Entries() {
		wanted := false
		for _, k := range want {
			wanted = wanted || k == e.Key
		}
		if got := c.Leaf(e.Key); got != wanted {
			t.Errorf("%s: Leaf(%v): %v", what, e.Key, got)
		}
	}
}

func TestLeaf(t *testing.T) {
	c := cache(t, folder(1, "a", 2), folder(2, "b", 3), file(1, "f", 4), link(1, "l", 5, "a"), none(2, "n"), folder(1, "e", 6))
	leaves(t, "Leaf", c, key(2, "b"), key(1, "f"), key(1, "l"), key(2, "n"), key(1, "e"))
	for _, k := range []api.Key{key(1, "q"), key(2, "a"), key(3, "b"), key(9, "q"), key(1, ""), key(2, ""), {}} {
		if c.Leaf(k) {
			t.Errorf("Leaf(%v), of what is not there", k)
		}
	}
	// A Neg entry below it is one as any other.
	c.Evict(key(2, "b"))
	leaves(t, "a Neg one below", c, key(1, "f"), key(1, "l"), key(2, "n"), key(1, "e"))
	c.Evict(key(2, "n"))
	leaves(t, "nothing below", c, key(1, "a"), key(1, "f"), key(1, "l"), key(1, "e"))
	puts(t, c, none(6, "x"))
	leaves(t, "a Neg one below", c, key(1, "a"), key(1, "f"), key(1, "l"), key(6, "x"))
	c.Cut([]api.Key{key(6, "")})
	leaves(t, "cut", c, key(1, "a"), key(1, "f"), key(1, "l"), key(1, "e"))
}

// What lies two below is not below: a leaf is one of which nothing is there just below.
func TestLeafLooksAtOneStep(t *testing.T) {
	c := cache(t, folder(1, "a", 2), folder(2, "b", 3), file(3, "c", 4))
	leaves(t, "a chain", c, key(3, "c"))
	c.Evict(key(2, "b"))
	leaves(t, "a gap", c, key(1, "a"), key(3, "c"))
}

// The node's kind is nothing to it: its ID alone counts.
func TestLeafOfAnyKind(t *testing.T) {
	for kind := -1; kind <= 4; kind++ {
		e := api.Entry{Key: key(1, "a"), Node: api.Node{ID: 2, Kind: kind}}
		c := cache(t, e)
		leaves(t, "alone", c, key(1, "a"))
		puts(t, c, none(2, "x"))
		leaves(t, "with one below", c, key(2, "x"))
	}
}

// A Neg entry's ID is 0, whatever node it was put with.
func TestLeafOfNeg(t *testing.T) {
	odd := api.Entry{Key: key(1, "odd"), Neg: true, Node: api.Node{ID: 2, Kind: api.KindDir}}
	c := cache(t, none(1, "n"), odd, file(2, "below", 3))
	leaves(t, "nothing in 0", c, key(1, "n"), key(1, "odd"), key(2, "below"))
	puts(t, c, file(0, "zero", 9))
	leaves(t, "a file in 0", c, key(2, "below"), key(0, "zero"))
	c.Evict(key(0, "zero"))
	leaves(t, "nothing in 0 any more", c, key(1, "n"), key(1, "odd"), key(2, "below"))
	// One that lies in 0 itself is its own.
	puts(t, c, none(0, "zero"))
	leaves(t, "a Neg one in 0", c, key(2, "below"))
	c.Cut([]api.Key{key(0, "")})
	leaves(t, "0 is cut", c, key(1, "n"), key(1, "odd"), key(2, "below"))
	// A directory 0 that is whole has no entries by that.
	c.SetWhole(0)
	leaves(t, "0 is whole", c, key(1, "n"), key(1, "odd"), key(2, "below"))
}

// A node 0 that is not Neg is as any other.
func TestLeafOfNodeZero(t *testing.T) {
	c := cache(t, file(1, "a", 0))
	leaves(t, "alone", c, key(1, "a"))
	puts(t, c, file(0, "b", 5))
	leaves(t, "with one below", c, key(0, "b"))
}

func TestLeafOfItself(t *testing.T) {
	c := cache(t, folder(1, "a", 1))
	leaves(t, "its own directory", c)
	puts(t, c, folder(2, "b", 3))
	puts(t, c, folder(3, "c", 2))
	leaves(t, "each other's directory", c)
	c.Evict(key(3, "c"))
	leaves(t, "one of them gone", c, key(2, "b"))
	c.Cut([]api.Key{key(1, "a")})
	leaves(t, "itself gone", c, key(2, "b"))
}

func TestLeafOfAnyNumber(t *testing.T) {
	for _, id := range []int{math.MinInt, -1, 0, 1, 1 << 32, math.MaxInt} {
		c := cache(t, folder(7, "a", id))
		leaves(t, "alone", c, key(7, "a"))
		puts(t, c, file(id, "b", 8))
		leaves(t, "with one below", c, key(id, "b"))
	}
}

// What a key is now counts, not what it was.
func TestLeafOfWhatWasPutAgain(t *testing.T) {
	c := cache(t, folder(1, "a", 2), file(2, "b", 3))
	leaves(t, "Put", c, key(2, "b"))
	puts(t, c, folder(1, "a", 4))
	leaves(t, "another node", c, key(1, "a"), key(2, "b"))
	puts(t, c, folder(1, "a", 2))
	leaves(t, "the first one again", c, key(2, "b"))
	puts(t, c, none(1, "a"))
	leaves(t, "Neg", c, key(1, "a"), key(2, "b"))
}
