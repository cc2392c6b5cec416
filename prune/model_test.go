package prune_test

import (
	"math"
	"math/rand"
	"slices"
	"testing"

	"vista/api"
	"vista/dent"
	"vista/prune"
)

// model is a cache as the chapters tell it: a list in the order of use, and one of the directories that are whole.
type model struct {
	entries []api.Entry
	whole   []int
}

func modelOf(c *dent.Cache, dirs []int) *model {
	m := &model{entries: c.Entries()}
	for _, dir := range dirs {
		if c.Whole(dir) {
			m.whole = append(m.whole, dir)
		}
	}
	return m
}

func (m *model) leaf(e api.Entry) bool {
	id := e.Node.ID
	if e.Neg {
		id = 0
	}
	return !slices.ContainsFunc(m.entries, func(other api.Entry) bool { return other.Key.Dir == id })
}

func (m *model) negatives() int {
	count := 0
	for _, e := range m.entries {
		if e.Neg {
			count++
		}
	}
	return count
}

// victim is the place of the entry that goes next, below 0 if there is none.
func (m *model) victim(negative bool) int {
	for i, e := range m.entries {
		if negative && e.Neg || !negative && m.leaf(e) {
			return i
		}
	}
	return -1
}

func (m *model) evict(i int) api.Key {
	e := m.entries[i]
	m.entries = slices.Concat(m.entries[:i], m.entries[i+1:])
	if !e.Neg {
		m.whole = slices.DeleteFunc(m.whole, func(dir int) bool { return dir == e.Key.Dir })
	}
	return e.Key
}

func (m *model) trim(most, negative int) []api.Key {
	var gone []api.Key
	for m.negatives() > 0 && m.negatives() > negative {
		gone = append(gone, m.evict(m.victim(true)))
	}
	for len(m.entries) > 0 && len(m.entries) > most && m.victim(false) >= 0 {
		gone = append(gone, m.evict(m.victim(false)))
	}
	return gone
}

// agreesOnVictims fails if not just what the model has goes next.
func agreesOnVictims(t *testing.T, c *dent.Cache, m *model) {
	t.Helper()
	for _, negative := range []bool{false, true} {
		if i := m.victim(negative); i < 0 {
			noVictim(t, "made up", c, negative)
		} else {
			victim(t, "made up", c, negative, m.entries[i].Key)
		}
	}
}

// agrees trims a cache and its model, and fails if anything that is told is not as the model has it.
func agrees(t *testing.T, c *dent.Cache, m *model, dirs []int, most, negative int) {
	t.Helper()
	agreesOnVictims(t, c, m)
	wholes(t, "ahead of Trim", c, dirs, m.whole...)
	trims(t, "made up", c, most, negative, m.trim(most, negative)...)
	has(t, "made up", c, m.entries...)
	wholes(t, "behind Trim", c, dirs, m.whole...)
	agreesOnVictims(t, c, m)
}

// Every cache of up to four puts out of eleven, with all limits that matter.
func TestAllSmallCaches(t *testing.T) {
	kinds := []api.Entry{
		folder(1, "a", 2), none(1, "a"), none(1, "n"), folder(2, "b", 3), file(2, "c", 4), none(2, "d"),
		folder(3, "e", 2), folder(4, "s", 4), none(0, "z"), file(0, "y", 9), folder(9, "p", 2),
	}
	dirs := []int{0, 1, 2, 3, 4, 9}
	for script := range len(kinds) * len(kinds) * len(kinds) * len(kinds) {
		var entries []api.Entry
		for rest, done := script, 0; done < 4; rest, done = rest/len(kinds), done+1 {
			entries = append(entries, kinds[rest%len(kinds)])
		}
		for limits := range 4 * 3 {
			c := set(cache(entries...), dirs[script%6:]...)
			agrees(t, c, modelOf(c, dirs), dirs, limits%4, limits/4)
		}
		if t.Failed() {
			t.Fatalf("at the script %d: %v", script, entries)
		}
	}
}

// madeUp is a cache of made-up entries, whatever they hang on, behind uses, cuts and evictions.
func madeUp(r *rand.Rand, dirs []int) *dent.Cache {
	c := cache()
	touch(r, c, dirs, r.Intn(150))
	return c
}

// touch does made-up things to a cache, as its owner may.
func touch(r *rand.Rand, c *dent.Cache, dirs []int, steps int) {
	for range steps {
		k := key(dirs[r.Intn(len(dirs))], []string{"a", "b", "B", "c", "\xff", "a/b", "\x00", "d"}[r.Intn(8)])
		switch r.Intn(12) {
		case 0, 1:
			c.Use(k)
		case 2:
			c.Evict(k)
		case 3:
			c.Cut([]api.Key{k})
		case 4, 5:
			c.SetWhole(k.Dir)
		default:
			e := api.Entry{Key: k, Neg: r.Intn(3) == 0}
			if !e.Neg || r.Intn(6) == 0 {
				e.Node = api.Node{ID: dirs[r.Intn(len(dirs))], Kind: 1 + r.Intn(3), Mode: r.Intn(3)}
			}
			if r.Intn(2) == 0 && !e.Neg {
				e.Node.ID = 100 + r.Intn(100)
			}
			c.Put(e)
		}
	}
}

// anyLimit is a made-up limit of so many: often near by, at times far away.
func anyLimit(r *rand.Rand, many int) int {
	switch r.Intn(10) {
	case 0:
		return []int{math.MinInt, -1, 0, math.MaxInt}[r.Intn(4)]
	case 1, 2:
		return many + 1 - r.Intn(3)
	}
	return r.Intn(many + 1)
}

// shapes are lists of directories, of few and of many: those of the first hang on one another in rings, those of the last hardly ever.
func shapes() [][]int {
	var many []int
	for i := range 40 {
		many = append(many, i-3)
	}
	return [][]int{{1}, {0, 1}, {1, 2, 3}, {-1, 0, 1, 2, 3, 4, 5, 6}, {math.MinInt, -1, 0, 1, 1 << 40, math.MaxInt}, many}
}

func TestManyCaches(t *testing.T) {
	stuck, rooms, both := 0, 0, 0
	for seed := range 3600 {
		r := rand.New(rand.NewSource(int64(seed)))
		dirs := shapes()[seed%len(shapes())]
		c := madeUp(r, dirs)
		for range 3 {
			m := modelOf(c, dirs)
			most, negative := anyLimit(r, c.Len()), anyLimit(r, c.Negatives())
			if c.Negatives() > max(negative, 0) && c.Len()-c.Negatives()+max(negative, 0) > max(most, 0) {
				both++
			}
			agrees(t, c, m, dirs, most, negative)
			if c.Len() > max(most, 0) {
				stuck++
			} else if c.Len() == max(most, 0) {
				rooms++
			}
			touch(r, c, dirs, r.Intn(40))
		}
		if t.Failed() {
			t.Fatalf("at the seed %d", seed)
		}
	}
	if stuck < 500 || rooms < 500 || both < 500 {
		t.Errorf("%d times no victim was left, %d times room was made, %d times for both limits", stuck, rooms, both)
	}
}

// R4

// The same calls answer the same, whatever order a map is gone through in.
func TestTheSameAgain(t *testing.T) {
	for seed := range 60 {
		var first []api.Key
		for turn := range 6 {
			r := rand.New(rand.NewSource(int64(seed)))
			dirs := shapes()[seed%len(shapes())]
			var told []api.Key
			c := madeUp(r, dirs)
			for range 4 {
				for _, negative := range []bool{false, true} {
					next, _ := prune.Victim(c, negative)
					told = append(told, next)
				}
				told = append(told, prune.Trim(c, anyLimit(r, c.Len()), anyLimit(r, c.Negatives()))...)
				touch(r, c, dirs, 20)
			}
			if turn == 0 {
				first = told
			}
			if !slices.Equal(first, told) {
				t.Fatalf("at the seed %d: %v, not %v", seed, told, first)
			}
		}
	}
}

// What was trimmed ahead, this cache or another one, is nothing to a Trim.
func TestTrimsHaveNothingInCommon(t *testing.T) {
	one, other := cache(sample()...), cache(sample()...)
	set(other, 1, 2)
	trims(t, "one", one, 0, 0, key(1, "n"), key(3, "m"), key(2, "o"), key(2, "f"), key(2, "b"), key(1, "a"), key(1, "g"))
	has(t, "the other one", other, sample()...)
	wholes(t, "the other one", other, sampleDirs, 1, 2)
	victim(t, "the other one", other, true, key(1, "n"))
	trims(t, "the other one", other, 6, 9, key(1, "n"))
	has(t, "one", one)
}
