package dent_test

import (
	"slices"
	"testing"

	"vista/api"
)

// R3

// spoilKeys writes over a list of keys, its spare room too.
func spoilKeys(keys []api.Key) {
	all := keys[:cap(keys)]
	for i := range all {
		all[i] = key(-77, "spoilt")
	}
}

// spoil writes over a list of entries, its spare room too.
func spoil(entries []api.Entry) {
	all := entries[:cap(entries)]
	for i := range all {
		all[i] = api.Entry{Key: key(-77, "spoilt"), Neg: i%2 == 0, Node: api.Node{ID: -77, Target: "spoilt"}}
	}
}

func TestKeysAreNeitherChangedNorKept(t *testing.T) {
	for _, keys := range [][]api.Key{
		nil,
		{key(1, "a")},
		{key(2, "a"), key(1, "b"), key(1, "a")},
		{key(1, ""), key(1, "b"), key(2, "")},
		{key(3, "q"), key(3, "q"), key(9, ""), key(2, "x")},
	} {
		c := filled(t)
		room := append(slices.Clone(keys), key(1, "c"), key(2, ""), key(0, "room"))
		want := slices.Clone(room)
		c.Cut(room[:len(keys)])
		if !slices.Equal(room, want) {
			t.Errorf("%v was changed to %v", want, room)
		}
		other := filled(t)
		other.Cut(want[:len(keys)])
		asked := append(want, oddKeys()...)
		before := tell(c, asked)
		spoilKeys(room)
		if now := tell(c, asked); !likeTold(now, before) || !likeTold(now, tell(other, asked)) {
			t.Errorf("Cut(%v): %v became %v", want[:len(keys)], before, now)
		}
	}
}

// What is told may be written over, its spare room too: the cache and what it tells then are as they were.
func TestAnswersAreNewMemory(t *testing.T) {
	c := filled(t)
	for range 3 {
		spoil(c.Entries())
		has(t, "Entries", c, sample()...)
		for _, dir := range dirs {
			spoil(c.Names(dir))
		}
		has(t, "Names", c, sample()...)
		names(t, c, 1, folder(1, "a", 2), file(1, "b", 3))
		lacks(t, "spoilt", c, key(-77, "spoilt"))
	}
	// Nor do two answers share any.
	one, other := c.Entries(), c.Entries()
	spoil(one)
	if !slices.Equal(other, sample()) {
		t.Errorf("Entries: %v", other)
	}
	one, other = c.Names(1), c.Names(1)
	spoil(one)
	if !slices.Equal(other, []api.Entry{folder(1, "a", 2), file(1, "b", 3)}) {
		t.Errorf("Names: %v", other)
	}
	one, other = append(c.Entries(), file(8, "one", 1)), append(c.Entries(), file(8, "other", 1))
	if !slices.Equal(one, append(sample(), file(8, "one", 1))) || !slices.Equal(other, append(sample(), file(8, "other", 1))) {
		t.Errorf("Entries: %v, %v", one, other)
	}
}

// What was told stays as it was, whatever becomes of the cache.
func TestAnswersStayAsTheyAre(t *testing.T) {
	c := filled(t)
	entries, found := c.Entries(), c.Names(1)
	for range 3 {
		c.Use(key(1, "b"))
		puts(t, c, file(1, "a", 50))
		puts(t, c, none(1, "b"))
		puts(t, c, file(1, "more", 51))
		c.Evict(key(2, "a"))
		c.Cut([]api.Key{key(3, ""), key(2, "x")})
		c.Clear()
		puts(t, c, file(1, "c", 52))
		if !slices.Equal(entries, sample()) || !slices.Equal(found, []api.Entry{folder(1, "a", 2), file(1, "b", 3)}) {
			t.Errorf("Entries %v, Names %v", entries, found)
		}
	}
}

// nil and an empty list are one.
func TestEmptyLists(t *testing.T) {
	c, other := filled(t), filled(t)
	c.Cut(nil)
	other.Cut([]api.Key{})
	if !likeTold(tell(c, oddKeys()), tell(other, oddKeys())) {
		t.Error("Cut(nil) is not Cut of no keys")
	}
	c.Clear()
	if len(c.Entries()) != 0 || len(c.Names(1)) != 0 {
		t.Errorf("Entries %v, Names %v", c.Entries(), c.Names(1))
	}
}
