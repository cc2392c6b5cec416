package prune_test

import (
	"math/rand"
	"slices"
	"testing"

	"vista/api"
	"vista/prune"
)

// R3

// spoil writes over a list of keys, its spare room too.
func spoil(keys []api.Key) {
	all := keys[:cap(keys)]
	for i := range all {
		all[i] = key(-77, "spoilt")
	}
}

// The keys that were told may be written over: the cache, and what it and a Trim tell then, are as they were.
func TestAnswersAreNewMemory(t *testing.T) {
	for most := range 8 {
		for negative := range 4 {
			c, other := set(cache(sample()...), 1, 2), set(cache(sample()...), 1, 2)
			spoil(prune.Trim(c, most, negative))
			prune.Trim(other, most, negative)
			has(t, "spoilt", c, other.Entries()...)
			wholes(t, "spoilt", c, sampleDirs, modelOf(other, sampleDirs).whole...)
			one, two := prune.Trim(c, 1, 0), prune.Trim(other, 1, 0)
			if !slices.Equal(one, two) {
				t.Errorf("behind Trim(%d, %d): %v, not %v", most, negative, one, two)
			}
			spoil(one)
			if trims(t, "the rest", c, 0, 0, prune.Trim(other, 0, 0)...); c.Len() != 0 {
				t.Errorf("behind Trim(%d, %d): %v", most, negative, c.Entries())
			}
		}
	}
}

// Nor do two answers share any, nor does one change behind it, whatever becomes of the cache.
func TestAnswersStayAsTheyAre(t *testing.T) {
	c := cache(sample()...)
	first := prune.Trim(c, 5, 9)
	second := prune.Trim(c, 3, 9)
	one, two := append(first, key(8, "one")), append(second, key(8, "two"))
	c.Put(file(1, "n", 50))
	c.Put(none(2, "f"))
	prune.Trim(c, 0, 0)
	c.Clear()
	if !slices.Equal(one, []api.Key{key(1, "n"), key(2, "f"), key(8, "one")}) {
		t.Errorf("the first answer became %v", one)
	}
	if !slices.Equal(two, []api.Key{key(3, "m"), key(2, "b"), key(8, "two")}) {
		t.Errorf("the second answer became %v", two)
	}
	spoil(first)
	if !slices.Equal(second, []api.Key{key(3, "m"), key(2, "b")}) {
		t.Errorf("the second answer became %v", second)
	}
}

// The cache stays its owner's: it goes on behind a Trim as one that never had what went.
func TestTheCacheIsUsedFurther(t *testing.T) {
	c := set(cache(sample()...), 1, 2, 3)
	trims(t, "Trim", c, 4, 1, key(1, "n"), key(3, "m"), key(2, "f"))
	has(t, "Trim", c, folder(1, "a", 2), folder(2, "b", 3), file(1, "g", 5), none(2, "o"))
	wholes(t, "Trim", c, sampleDirs, 1, 3)

	if c.Use(key(2, "f")) || c.Evict(key(3, "m")) || !c.Use(key(1, "a")) {
		t.Error("Use, Evict: not as they should")
	}
	c.Put(file(2, "f", 4))
	c.SetWhole(2)
	has(t, "used further", c, folder(2, "b", 3), file(1, "g", 5), none(2, "o"), folder(1, "a", 2), file(2, "f", 4))
	wholes(t, "used further", c, sampleDirs, 1, 2, 3)
	trims(t, "again", c, 3, 9, key(2, "b"), key(1, "g"))
	has(t, "again", c, none(2, "o"), folder(1, "a", 2), file(2, "f", 4))
	wholes(t, "again", c, sampleDirs, 3)

	c.Cut([]api.Key{key(2, "")})
	victim(t, "cut", c, false, key(1, "a"))
	c.Clear()
	noVictim(t, "cleared", c, false)
	trims(t, "cleared", c, 0, 0)
	c.Put(none(3, "m"))
	trims(t, "put again", c, 0, 9, key(3, "m"))
}

// A Victim that is asked for changes nothing: not the order of use, not what is whole.
func TestVictimChangesNothing(t *testing.T) {
	for seed := range 300 {
		r := rand.New(rand.NewSource(int64(seed)))
		dirs := shapes()[seed%len(shapes())]
		c := madeUp(r, dirs)
		before := modelOf(c, dirs)
		for range 3 {
			agreesOnVictims(t, c, before)
		}
		has(t, "Victim", c, before.entries...)
		wholes(t, "Victim", c, dirs, before.whole...)
		if t.Failed() {
			t.Fatalf("at the seed %d", seed)
		}
	}
}

// nil and an empty list are one: where nothing goes, none is told.
func TestNothingIsToldWhereNothingGoes(t *testing.T) {
	c := cache(sample()...)
	if got := prune.Trim(c, 7, 3); len(got) != 0 {
		t.Errorf("Trim: %v", got)
	}
	if got := prune.Trim(cache(), 0, 0); len(got) != 0 {
		t.Errorf("Trim: %v", got)
	}
}
