package prune_test

import (
	"math"
	"strconv"
	"testing"

	"vista/api"
	"vista/prune"
)

// P13.2

// sampleDirs are the directories of sample, and some beside them.
var sampleDirs = []int{-1, 0, 1, 2, 3, 4, 9}

// sample are two chains and Neg entries beside and below them.
func sample() []api.Entry {
	return []api.Entry{none(1, "n"), folder(1, "a", 2), file(2, "f", 4), folder(2, "b", 3), none(3, "m"), file(1, "g", 5), none(2, "o")}
}

func TestTrim(t *testing.T) {
	n, m, o := key(1, "n"), key(3, "m"), key(2, "o")
	a, b, f, g := key(1, "a"), key(2, "b"), key(2, "f"), key(1, "g")
	for _, x := range []struct {
		what           string
		most, negative int
		gone           []api.Key
		whole          []int
	}{
		{"more than there are", 99, 99, nil, []int{0, 1, 2, 3, 4}},
		{"just as many", 7, 3, nil, []int{0, 1, 2, 3, 4}},
		{"as many as there can be", math.MaxInt, math.MaxInt, nil, []int{0, 1, 2, 3, 4}},
		{"one Neg fewer", 99, 2, []api.Key{n}, []int{0, 1, 2, 3, 4}},
		{"two Neg fewer", 99, 1, []api.Key{n, m}, []int{0, 1, 2, 3, 4}},
		{"no Neg", 99, 0, []api.Key{n, m, o}, []int{0, 1, 2, 3, 4}},
		{"Neg below 0", 99, -1, []api.Key{n, m, o}, []int{0, 1, 2, 3, 4}},
		{"Neg far below 0", math.MaxInt, math.MinInt, []api.Key{n, m, o}, []int{0, 1, 2, 3, 4}},
		{"one fewer: a Neg one goes as a leaf", 6, 3, []api.Key{n}, []int{0, 1, 2, 3, 4}},
		{"two fewer", 5, 3, []api.Key{n, f}, []int{0, 1, 3, 4}},
		{"three fewer", 4, 3, []api.Key{n, f, m}, []int{0, 1, 3, 4}},
		{"what was above goes next", 3, 3, []api.Key{n, f, m, b}, []int{0, 1, 3, 4}},
		{"what is above still stays", 2, 3, []api.Key{n, f, m, b, g}, []int{0, 3, 4}},
		{"one", 1, 3, []api.Key{n, f, m, b, g, o}, []int{0, 3, 4}},
		{"none", 0, 3, []api.Key{n, f, m, b, g, o, a}, []int{0, 3, 4}},
		{"below 0", -1, 3, []api.Key{n, f, m, b, g, o, a}, []int{0, 3, 4}},
		{"far below 0", math.MinInt, math.MaxInt, []api.Key{n, f, m, b, g, o, a}, []int{0, 3, 4}},
		{"both above: the Neg ones suffice", 6, 2, []api.Key{n}, []int{0, 1, 2, 3, 4}},
		{"both above: the Neg ones are more", 6, 1, []api.Key{n, m}, []int{0, 1, 2, 3, 4}},
		{"both above", 5, 2, []api.Key{n, f}, []int{0, 1, 3, 4}},
		{"both above, Neg ones go first", 3, 1, []api.Key{n, m, f, b}, []int{0, 1, 3, 4}},
		{"both above, no Neg one stays", 2, 0, []api.Key{n, m, o, f, b}, []int{0, 1, 3, 4}},
		{"nothing stays", 0, 0, []api.Key{n, m, o, f, b, a, g}, []int{0, 3, 4}},
		{"nothing stays, below 0", math.MinInt, math.MinInt, []api.Key{n, m, o, f, b, a, g}, []int{0, 3, 4}},
	} {
		c := set(cache(sample()...), 0, 1, 2, 3, 4)
		trims(t, x.what, c, x.most, x.negative, x.gone...)
		has(t, x.what, c, left(sample(), x.gone)...)
		wholes(t, x.what, c, sampleDirs, x.whole...)
		trims(t, x.what+", again", c, x.most, x.negative)
		has(t, x.what+", again", c, left(sample(), x.gone)...)
		wholes(t, x.what+", again", c, sampleDirs, x.whole...)
	}
}

// left are entries without those of some keys.
func left(entries []api.Entry, gone []api.Key) []api.Entry {
	var others []api.Entry
	for _, e := range entries {
		went := false
		for _, k := range gone {
			went = went || e.Key == k
		}
		if !went {
			others = append(others, e)
		}
	}
	return others
}

func TestTrimOfNothing(t *testing.T) {
	for _, most := range []int{math.MinInt, -1, 0, 1, 9, math.MaxInt} {
		for _, negative := range []int{math.MinInt, -1, 0, 1, 9, math.MaxInt} {
			c := set(cache(), 1, 3)
			trims(t, "an empty cache", c, most, negative)
			has(t, "an empty cache", c)
			wholes(t, "an empty cache", c, sampleDirs, 1, 3)
			c.Put(none(1, "n"))
			c.Clear()
			trims(t, "a cache that was cleared", c, most, negative)
			has(t, "a cache that was cleared", c)
		}
	}
}

// The order of use counts, not that of the puts, of the numbers or of the names.
func TestTrimByUse(t *testing.T) {
	c := cache(file(1, "a", 5), none(1, "b"), file(2, "a", 4), none(0x7fff, "z"), file(1, "c", 3))
	c.Use(key(1, "a"))
	c.Put(none(1, "b"))
	trims(t, "used", c, 4, 1, key(0x7fff, "z"))
	trims(t, "used", c, 0, 1, key(2, "a"), key(1, "c"), key(1, "a"), key(1, "b"))
}

// What becomes a leaf goes by its own use, among those that are leaves already.
func TestTrimOfWhatIsFreed(t *testing.T) {
	c := cache(file(3, "low", 9), file(1, "x", 4), folder(1, "d", 3), file(1, "y", 5))
	trims(t, "freed, and used later", c, 1, 0, key(3, "low"), key(1, "x"), key(1, "d"))
	has(t, "freed, and used later", c, file(1, "y", 5))

	c = cache(folder(1, "d", 3), file(1, "x", 4), file(3, "low", 9), file(1, "y", 5))
	trims(t, "freed, and longest unused", c, 1, 0, key(1, "x"), key(3, "low"), key(1, "d"))
	has(t, "freed, and longest unused", c, file(1, "y", 5))

	// A node in several places: each of them is freed at once.
	c = cache(folder(1, "p", 3), file(1, "x", 4), folder(2, "q", 3), file(3, "low", 9), file(1, "y", 5), folder(8, "r", 3))
	trims(t, "a node in several places", c, 0, 0, key(1, "x"), key(3, "low"), key(1, "p"), key(2, "q"), key(1, "y"), key(8, "r"))
}

// A directory is freed by a Neg entry that went for the Neg ones' limit, too.
func TestTrimOfWhatNegsFree(t *testing.T) {
	c := cache(folder(1, "d", 2), file(1, "x", 3), none(2, "n"))
	trims(t, "freed by a Neg one", c, 1, 0, key(2, "n"), key(1, "d"))
	has(t, "freed by a Neg one", c, file(1, "x", 3))
}

// A directory's names go one by one ahead of its own entry, which stays if they suffice.
func TestTrimOfAFullDirectory(t *testing.T) {
	c := set(cache(folder(1, "d", 2), file(2, "a", 3), none(2, "n"), file(2, "b", 4)), 1, 2)
	trims(t, "a full directory", c, 2, 9, key(2, "a"), key(2, "n"))
	wholes(t, "a full directory", c, sampleDirs, 1)
	trims(t, "a full directory", c, 1, 9, key(2, "b"))
	wholes(t, "a full directory", c, sampleDirs, 1)
	trims(t, "a full directory", c, 0, 9, key(1, "d"))
	wholes(t, "a full directory", c, sampleDirs)
}

// It ends where there is no victim.
func TestTrimOfRings(t *testing.T) {
	a, b := folder(2, "a", 3), folder(3, "b", 2)
	c := set(cache(a, b), 2, 3)
	trims(t, "a ring", c, 0, 0)
	has(t, "a ring", c, a, b)
	wholes(t, "a ring", c, sampleDirs, 2, 3)

	self := folder(5, "s", 5)
	c = cache(self)
	trims(t, "its own directory", c, 0, 0)
	has(t, "its own directory", c, self)

	// What hangs below a ring goes; what is above it stays.
	top := folder(1, "top", 2)
	c = cache(top, a, file(3, "f", 7), b, none(2, "n"), folder(3, "d", 8), file(8, "g", 9))
	trims(t, "below a ring", c, 1, 9, key(3, "f"), key(2, "n"), key(8, "g"), key(3, "d"))
	has(t, "below a ring", c, top, a, b)
	trims(t, "below a ring, again", c, 1, 9)

	// A Neg entry in a ring goes for the Neg ones' limit, and may open it.
	zero := folder(0, "z", 4)
	c = cache(zero, none(4, "n"))
	trims(t, "a Neg one in a ring", c, 0, 9)
	has(t, "a Neg one in a ring", c, zero, none(4, "n"))
	trims(t, "a Neg one in a ring", c, 9, 0, key(4, "n"))
	trims(t, "an open ring", c, 0, 0, key(0, "z"))
	c = cache(zero, none(4, "n"))
	trims(t, "a Neg one in a ring, then the rest", c, 0, 0, key(4, "n"), key(0, "z"))
}

// A Neg entry is freed by the last one that goes in the directory 0, whatever node it was put with.
func TestTrimOfNegsAboveZero(t *testing.T) {
	odd := folder(1, "odd", 2)
	odd.Neg = true
	c := cache(odd, none(1, "n"), file(2, "f", 3), file(0, "z", 4), file(0, "y", 2))
	// {0 y} is above {2 f}.
	trims(t, "Neg ones above 0", c, 0, 9, key(2, "f"), key(0, "z"), key(0, "y"), key(1, "odd"), key(1, "n"))

	c = cache(odd, file(2, "f", 3), file(0, "z", 4))
	trims(t, "one of them", c, 9, 0, key(1, "odd"))
	has(t, "one of them", c, file(2, "f", 3), file(0, "z", 4))
}

// Long caches are trimmed in the same order as short ones, without a search for each that goes.
func TestTrimOfManyEntries(t *testing.T) {
	const pairs = 20000
	c := cache()
	var want []api.Key
	for i := range pairs {
		c.Put(folder(1, strconv.Itoa(i), 2+i))
	}
	for i := range pairs {
		c.Put(file(2+i, "f", 2+pairs+i))
		want = append(want, key(2+i, "f"), key(1, strconv.Itoa(i)))
	}
	trims(t, "many pairs", c, 0, 0, want...)
	has(t, "many pairs", c)

	want = nil
	for i := range pairs {
		c.Put(folder(1+i, "x", 2+i))
		want = append(want, key(pairs-i, "x"))
	}
	trims(t, "a long chain", c, 0, 0, want...)
	has(t, "a long chain", c)
}

// Trim is Victim and Evict in turns, one step after the other.
func TestTrimStepByStep(t *testing.T) {
	c, other := cache(sample()...), cache(sample()...)
	for most := c.Len() - 1; most >= 0; most-- {
		next, ok := prune.Victim(other, false)
		if !ok || !other.Evict(next) {
			t.Fatalf("Victim: %v, %v", next, ok)
		}
		trims(t, "a step", c, most, 9, next)
		has(t, "a step", c, other.Entries()...)
	}
	c, other = cache(sample()...), cache(sample()...)
	for negative := c.Negatives() - 1; negative >= 0; negative-- {
		next, ok := prune.Victim(other, true)
		if !ok || !other.Evict(next) {
			t.Fatalf("Victim: %v, %v", next, ok)
		}
		trims(t, "a step", c, 99, negative, next)
		has(t, "a step", c, other.Entries()...)
	}
	noVictim(t, "no Neg entry is left", c, true)
}
