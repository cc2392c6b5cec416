package dent_test

import (
	"math/rand"
	"slices"
	"testing"

	"vista/api"
	"vista/dent"
)

// model is a cache as the chapter tells it: a list in the order of use, and one of the directories that are whole.
type model struct {
	entries []api.Entry
	whole   []int
}

func (m *model) place(k api.Key) int {
	return slices.IndexFunc(m.entries, func(e api.Entry) bool { return e.Key == k })
}

func (m *model) take(i int) api.Entry {
	e := m.entries[i]
	m.entries = slices.Concat(m.entries[:i], m.entries[i+1:])
	return e
}

func (m *model) put(e api.Entry) api.Errno {
	if e.Key.Name == "" {
		return api.ErrArg
	}
	if i := m.place(e.Key); i >= 0 {
		m.take(i)
	}
	m.entries = append(m.entries, e)
	return api.OK
}

func (m *model) use(k api.Key) bool {
	i := m.place(k)
	if i < 0 {
		return false
	}
	m.entries = append(m.entries, m.take(i))
	return true
}

func (m *model) cut(keys []api.Key) {
	for _, k := range keys {
		for i := len(m.entries) - 1; i >= 0; i-- {
			if e := m.entries[i]; e.Key == k || k.Name == "" && e.Key.Dir == k.Dir {
				m.take(i)
			}
		}
		m.unset(k.Dir)
	}
}

func (m *model) evict(k api.Key) bool {
	i := m.place(k)
	if i < 0 {
		return false
	}
	if e := m.take(i); !e.Neg {
		m.unset(k.Dir)
	}
	return true
}

func (m *model) unset(dir int) {
	m.whole = slices.DeleteFunc(m.whole, func(other int) bool { return other == dir })
}

func (m *model) names(dir int) []api.Entry {
	var found []api.Entry
	for _, e := range m.entries {
		if e.Key.Dir == dir && !e.Neg {
			at := 0
			for at < len(found) && found[at].Key.Name < e.Key.Name {
				at++
			}
			found = slices.Insert(found, at, e)
		}
	}
	return found
}

func (m *model) leaf(k api.Key) bool {
	i := m.place(k)
	if i < 0 {
		return false
	}
	id := 0
	if !m.entries[i].Neg {
		id = m.entries[i].Node.ID
	}
	return !slices.ContainsFunc(m.entries, func(e api.Entry) bool { return e.Key.Dir == id })
}

// pair is a cache with its model, and the keys that are asked for behind each call.
type pair struct {
	c    *dent.Cache
	m    *model
	keys []api.Key
	dirs []int
}

func newPair(t *testing.T, keys []api.Key) *pair {
	p := &pair{c: cache(t), m: &model{}, keys: keys}
	for _, k := range keys {
		if !slices.Contains(p.dirs, k.Dir) {
			p.dirs = append(p.dirs, k.Dir)
		}
	}
	p.agrees(t, "New")
	return p
}

func (p *pair) put(t *testing.T, e api.Entry) {
	t.Helper()
	if got, want := p.c.Put(e), p.m.put(e); got != want {
		t.Errorf("Put(%v): %d, not %d", e, got, want)
	}
	p.agrees(t, "Put")
}

func (p *pair) use(t *testing.T, k api.Key) {
	t.Helper()
	if got, want := p.c.Use(k), p.m.use(k); got != want {
		t.Errorf("Use(%v): %v", k, got)
	}
	p.agrees(t, "Use")
}

func (p *pair) cut(t *testing.T, keys ...api.Key) {
	t.Helper()
	p.c.Cut(keys)
	p.m.cut(keys)
	p.agrees(t, "Cut")
}

func (p *pair) clear(t *testing.T) {
	t.Helper()
	p.c.Clear()
	*p.m = model{}
	p.agrees(t, "Clear")
}

func (p *pair) evict(t *testing.T, k api.Key) {
	t.Helper()
	if got, want := p.c.Evict(k), p.m.evict(k); got != want {
		t.Errorf("Evict(%v): %v", k, got)
	}
	p.agrees(t, "Evict")
}

func (p *pair) set(t *testing.T, dir int) {
	t.Helper()
	p.c.SetWhole(dir)
	p.m.unset(dir)
	p.m.whole = append(p.m.whole, dir)
	p.agrees(t, "SetWhole")
}

// agrees fails if anything that is told is not as the model has it.
func (p *pair) agrees(t *testing.T, what string) {
	t.Helper()
	has(t, what, p.c, p.m.entries...)
	for _, k := range p.keys {
		if p.m.place(k) < 0 {
			if got, ok := p.c.Get(k); ok || got != (api.Entry{}) {
				t.Errorf("%s: Get(%v): %v, %v", what, k, got, ok)
			}
		}
		if got := p.c.Leaf(k); got != p.m.leaf(k) {
			t.Errorf("%s: Leaf(%v): %v", what, k, got)
		}
	}
	for _, dir := range p.dirs {
		names(t, p.c, dir, p.m.names(dir)...)
	}
	wholes(t, what, p.c, p.dirs, p.m.whole...)
}

// kinds is how many kinds of steps doStep knows.
const kinds = 18

func doStep(t *testing.T, p *pair, kind int) {
	t.Helper()
	switch kind {
	case 0:
		p.put(t, folder(1, "a", 2))
	case 1:
		p.put(t, none(1, "a"))
	case 2:
		p.put(t, file(1, "b", 3))
	case 3:
		p.put(t, folder(1, "b", 1))
	case 4:
		p.put(t, file(2, "a", 0))
	case 5:
		p.put(t, none(0, "a"))
	case 6:
		p.put(t, none(1, ""))
	case 7:
		p.use(t, key(1, "a"))
	case 8:
		p.use(t, key(1, "b"))
	case 9:
		p.evict(t, key(1, "a"))
	case 10:
		p.evict(t, key(2, "a"))
	case 11:
		p.cut(t, key(1, "a"))
	case 12:
		p.cut(t, key(1, ""))
	case 13:
		p.cut(t, key(2, "b"), key(1, "b"))
	case 14:
		p.cut(t)
	case 15:
		p.set(t, 1)
	case 16:
		p.set(t, 2)
	case 17:
		p.clear(t)
	}
}

// Every script of four steps.
func TestAllShortScripts(t *testing.T) {
	keys := []api.Key{{}, key(0, "a"), key(1, "a"), key(1, "b"), key(1, ""), key(2, "a"), key(2, "b")}
	for script := range kinds * kinds * kinds * kinds {
		p := newPair(t, keys)
		for left, done := script, 0; done < 4; left, done = left/kinds, done+1 {
			doStep(t, p, left%kinds)
		}
		if t.Failed() {
			t.Fatalf("at the script %d", script)
		}
	}
}

// anyEntry is a made-up entry of a key: often Neg, at times with a node that none has.
func anyEntry(r *rand.Rand, k api.Key, dirs []int) api.Entry {
	e := api.Entry{Key: k, Neg: r.Intn(3) == 0}
	if !e.Neg || r.Intn(6) == 0 {
		e.Node = api.Node{ID: dirs[r.Intn(len(dirs))], Kind: 1 + r.Intn(3), Mode: r.Intn(3)}
	}
	if e.Node.Kind == api.KindLink {
		e.Node.Target = []string{"", "x", "/\xff"}[r.Intn(3)]
	}
	return e
}

// anyStep does a made-up step of a script with these keys.
func anyStep(t *testing.T, r *rand.Rand, p *pair, keys []api.Key) {
	t.Helper()
	k := keys[r.Intn(len(keys))]
	switch r.Intn(24) {
	case 0, 1, 2:
		p.use(t, k)
	case 3, 4:
		p.evict(t, k)
	case 5, 6:
		var some []api.Key
		for range r.Intn(4) {
			some = append(some, keys[r.Intn(len(keys))])
		}
		p.cut(t, some...)
	case 7:
		p.cut(t, key(k.Dir, ""))
	case 8, 9, 10:
		p.set(t, k.Dir)
	case 11:
		if r.Intn(4) == 0 {
			p.clear(t)
		}
	default:
		p.put(t, anyEntry(r, k, p.dirs))
	}
}

func TestManyScripts(t *testing.T) {
	all := append(oddKeys(), key(1, ""), key(0, ""), key(-1, ""))
	for seed := range 300 {
		r := rand.New(rand.NewSource(int64(seed)))
		r.Shuffle(len(all), func(i, j int) { all[i], all[j] = all[j], all[i] })
		// Of few keys many are used again.
		p := newPair(t, all)
		keys := all[:1+r.Intn(len(all))]
		for range 120 {
			anyStep(t, r, p, keys)
		}
		if t.Failed() {
			t.Fatalf("at the seed %d", seed)
		}
	}
}

// R4

// told is all that a cache tells of some keys.
type told struct {
	entries, got, names []api.Entry
	there, leaf, whole  []bool
	count, negatives    int
}

func tell(c *dent.Cache, keys []api.Key) told {
	all := told{entries: c.Entries(), count: c.Len(), negatives: c.Negatives()}
	for _, k := range keys {
		e, ok := c.Get(k)
		all.got, all.there, all.leaf = append(all.got, e), append(all.there, ok), append(all.leaf, c.Leaf(k))
		all.names, all.whole = append(all.names, c.Names(k.Dir)...), append(all.whole, c.Whole(k.Dir))
	}
	return all
}

func likeTold(a, b told) bool {
	return slices.Equal(a.entries, b.entries) && slices.Equal(a.got, b.got) && slices.Equal(a.names, b.names) &&
		slices.Equal(a.there, b.there) && slices.Equal(a.leaf, b.leaf) && slices.Equal(a.whole, b.whole) &&
		a.count == b.count && a.negatives == b.negatives
}

// The same calls answer the same, whatever order a map is gone through in.
func TestTheSameAgain(t *testing.T) {
	keys := oddKeys()
	for seed := range 20 {
		var first told
		for turn := range 6 {
			r := rand.New(rand.NewSource(int64(seed)))
			p := newPair(t, keys)
			for range 100 {
				anyStep(t, r, p, keys)
			}
			now := tell(p.c, keys)
			if turn == 0 {
				first = now
			}
			if !likeTold(first, now) || !likeTold(now, tell(p.c, keys)) {
				t.Fatalf("at the seed %d: %v, not %v", seed, now, first)
			}
		}
	}
}

func TestCachesHaveNothingInCommon(t *testing.T) {
	one, other := cache(t, sample()...), cache(t)
	one.SetWhole(1)
	has(t, "the other one", other)
	wholes(t, "the other one", other, dirs)
	puts(t, other, file(1, "a", 77))
	puts(t, other, none(1, "b"))
	other.SetWhole(2)
	has(t, "the first one", one, sample()...)
	wholes(t, "the first one", one, dirs, 1)
	other.Use(key(1, "a"))
	other.Evict(key(1, "b"))
	other.Cut([]api.Key{key(1, ""), key(2, "")})
	other.Clear()
	has(t, "the first one", one, sample()...)
	wholes(t, "the first one", one, dirs, 1)
	one.Clear()
	puts(t, other, file(3, "x", 4))
	has(t, "the first one", one)
	has(t, "the other one", other, file(3, "x", 4))
}
