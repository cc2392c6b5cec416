package vow_test

import (
	"maps"
	"math/rand"
	"slices"
	"strings"
	"testing"

	"vista/api"
	"vista/vow"
)

// P8.6

// model is a table as the chapter tells it: keys with the step at which they were used, and all breaks that were ever made.
type model struct {
	epoch, promises, queue int
	used                   map[api.Key]int
	step                   int
	made                   []api.Break
	// left is how many breaks, of made, the queue begins behind.
	left int
}

func newModel(epoch, promises, queue int) *model {
	return &model{epoch: epoch, promises: promises, queue: queue, used: map[api.Key]int{}}
}

func (m *model) mark() complex128 { return complex(float64(m.epoch), float64(len(m.made))) }

func (m *model) order() []api.Key {
	return slices.SortedFunc(maps.Keys(m.used), func(a, b api.Key) int { return m.used[a] - m.used[b] })
}

func (m *model) breaks(told map[api.Key]int, version int) []api.Break {
	b := api.Break{Mark: m.mark() + 1i, Version: version}
	b.Keys = slices.SortedFunc(maps.Keys(told), func(a, b api.Key) int {
		if a.Dir != b.Dir {
			return (a.Dir - b.Dir) / max(a.Dir-b.Dir, b.Dir-a.Dir)
		}
		return strings.Compare(a.Name, b.Name)
	})
	m.made = append(m.made, b)
	if len(m.made)-m.left > m.queue {
		last := len(m.made) - 1
		m.made[last] = api.Break{Mark: b.Mark, Version: version, All: true}
		m.left = last
		clear(m.used)
	}
	return m.made[len(m.made)-1:]
}

func (m *model) grant(k api.Key, version int) []api.Break {
	m.step++
	m.used[k] = m.step
	if len(m.used) <= m.promises {
		return nil
	}
	first := m.order()[0]
	delete(m.used, first)
	return m.breaks(map[api.Key]int{first: 1}, version)
}

func (m *model) touch(keys []api.Key, version int) []api.Break {
	told := map[api.Key]int{}
	for _, k := range keys {
		if m.used[k] > 0 || m.used[api.Key{Dir: k.Dir}] > 0 {
			told[k]++
		}
	}
	if len(told) == 0 {
		return nil
	}
	for k := range told {
		delete(m.used, k)
	}
	return m.breaks(told, version)
}

func (m *model) ack(number int) bool {
	if number > len(m.made) {
		return false
	}
	m.left = max(m.left, number)
	return true
}

// reader is a client: what it has learned of names, and which breaks it has applied.
type reader struct {
	learned map[api.Key]int
	applied int
}

// applies forgets what breaks name that it has not applied yet; of the others it knows that they are old.
func (r *reader) applies(t *testing.T, breaks []api.Break) {
	t.Helper()
	for _, b := range breaks {
		number := int(imag(b.Mark))
		if number <= r.applied {
			continue
		}
		if number != r.applied+1 && !b.All {
			t.Errorf("break %d comes behind %d", number, r.applied)
		}
		r.applied = number
		for k := range r.learned {
			if b.All || slices.Contains(b.Keys, k) || slices.Contains(b.Keys, api.Key{Dir: k.Dir}) {
				delete(r.learned, k)
			}
		}
	}
}

// learns what the names of a granted key are; of a directory's key: all of them.
func (r *reader) learns(k api.Key, values map[api.Key]int) {
	for other, value := range values {
		if other == k || k.Name == "" && other.Dir == k.Dir {
			r.learned[other] = value
		}
	}
}

// knows fails if a reader that has applied everything knows more than it was promised, or what is so no more.
func (r *reader) knows(t *testing.T, v *vow.Table, values map[api.Key]int) {
	t.Helper()
	for k, value := range r.learned {
		if !v.Holds(k) && !v.Holds(api.Key{Dir: k.Dir}) {
			t.Errorf("%v is known, and not promised", k)
		}
		if value != values[k] {
			t.Errorf("%v is known as %d, and is %d", k, value, values[k])
		}
	}
}

// play is a table, with its model, and two clients: one that applies each break when it is made, one that looks into the queue now and then.
type play struct {
	v           *vow.Table
	m           *model
	quick, slow reader
	// values tell how often a name was touched.
	values map[api.Key]int
	broken int
}

func newPlay(t *testing.T, epoch, promises, queue int, names []api.Key) *play {
	t.Helper()
	p := &play{v: table(t, epoch, promises, queue), m: newModel(epoch, promises, queue), values: map[api.Key]int{}}
	p.quick.learned, p.slow.learned = map[api.Key]int{}, map[api.Key]int{}
	for _, k := range names {
		if k.Name != "" {
			p.values[k] = 0
		}
	}
	return p
}

// made looks at the breaks of a call: which promises went, and whether each of them was named.
func (p *play) made(t *testing.T, what string, before []api.Key, got, want []api.Break) {
	t.Helper()
	says(t, what, got, want...)
	if len(got) > 1 {
		t.Fatalf("%s: %d breaks", what, len(got))
	}
	for _, k := range before {
		if !p.v.Holds(k) && (len(got) == 0 || !got[0].All && !slices.Contains(got[0].Keys, k)) {
			t.Errorf("%s: the promise of %v has gone", what, k)
		}
	}
	for _, b := range got {
		p.broken++
		if b.Mark != complex(float64(p.m.epoch), float64(p.broken)) {
			t.Errorf("%s: break %d has the mark %v", what, p.broken, b.Mark)
		}
	}
	p.quick.applies(t, got)
	p.quick.knows(t, p.v, p.values)
}

func (p *play) grant(t *testing.T, k api.Key, version int) {
	t.Helper()
	before := p.v.Promises()
	p.made(t, "Grant", before, p.v.Grant(k, version), p.m.grant(k, version))
	if p.v.Holds(k) {
		p.quick.learns(k, p.values)
		// What is told here counts only behind the breaks that were made ahead.
		p.slow.applies(t, p.v.Queue())
		p.slow.learns(k, p.values)
	}
	p.state(t, "Grant")
}

func (p *play) touch(t *testing.T, keys []api.Key, version int) {
	t.Helper()
	for _, k := range keys {
		if k.Name != "" {
			p.values[k]++
		}
	}
	before := p.v.Promises()
	p.made(t, "Touch", before, p.v.Touch(keys, version), p.m.touch(keys, version))
	p.state(t, "Touch")
}

func (p *play) ack(t *testing.T, number int) {
	t.Helper()
	if number <= len(p.m.made) {
		// Nobody acknowledges what it has not applied.
		p.slow.applies(t, p.v.Queue())
		p.slow.knows(t, p.v, p.values)
	}
	m := complex(float64(p.m.epoch), float64(number))
	if got, want := p.v.Ack(m), p.m.ack(number); got != want {
		t.Errorf("Ack(%v): %v", m, got)
	}
	p.state(t, "Ack")
}

func (p *play) state(t *testing.T, what string) {
	t.Helper()
	holds(t, what, p.v, p.m.order()...)
	queues(t, what, p.v, p.m.mark(), p.m.made[p.m.left:]...)
	p.quick.knows(t, p.v, p.values)
	if len(p.v.Promises()) > p.m.promises || len(p.v.Queue()) > p.m.queue {
		t.Errorf("%s: a limit is passed", what)
	}
}

// kinds is how many kinds of steps doStep knows.
const kinds = 11

func doStep(t *testing.T, p *play, kind, version int) {
	t.Helper()
	switch kind {
	case 0:
		p.grant(t, key(1, "a"), version)
	case 1:
		p.grant(t, key(1, "b"), version)
	case 2:
		p.grant(t, key(1, ""), version)
	case 3:
		p.grant(t, key(2, "a"), version)
	case 4:
		p.touch(t, []api.Key{key(1, "a")}, version)
	case 5:
		p.touch(t, []api.Key{key(2, "a"), key(1, "b"), key(2, "a")}, version)
	case 6:
		p.touch(t, []api.Key{key(1, "")}, version)
	case 7:
		p.touch(t, []api.Key{key(1, "c"), key(1, ""), key(1, "b")}, version)
	case 8:
		p.ack(t, p.broken)
	case 9:
		p.ack(t, p.m.left+1)
	case 10:
		p.ack(t, p.broken+1)
	}
}

func TestAllShortScripts(t *testing.T) {
	const steps = 4
	names := []api.Key{key(1, "a"), key(1, "b"), key(1, "c"), key(2, "a")}
	for script := range kinds * kinds * kinds * kinds {
		for limits := range 4 {
			p := newPlay(t, 1, 1+limits%2, 1+limits/2, names)
			left := script
			for version := range steps {
				doStep(t, p, left%kinds, version)
				left /= kinds
			}
			if t.Failed() {
				t.Fatalf("at the script %d, limits %d", script, limits)
			}
		}
	}
}

// anyKeys are names to play with: some directories, unlike names, and the directories' own keys.
func anyKeys() []api.Key {
	var all []api.Key
	for _, dir := range []int{-4, 0, 1, 2, 1 << 40} {
		for _, called := range []string{"", "a", "aa", "B", "\xff", "a long name, longer than any"} {
			all = append(all, key(dir, called))
		}
	}
	return all
}

func TestManyScripts(t *testing.T) {
	all := anyKeys()
	for seed := range 400 {
		r := rand.New(rand.NewSource(int64(seed)))
		// Of few keys many are used again.
		names := all[:1+r.Intn(len(all))]
		promises, queue := 1+r.Intn(api.MaxPromises), 1+r.Intn(api.MaxQueue)
		if seed%2 == 0 {
			promises, queue = 1+r.Intn(4), 1+r.Intn(4)
		}
		p := newPlay(t, r.Intn(3), promises, queue, all)
		for version := range 150 {
			switch r.Intn(5) {
			case 0, 1:
				p.grant(t, names[r.Intn(len(names))], version)
			case 2, 3:
				var keys []api.Key
				for range r.Intn(5) {
					keys = append(keys, names[r.Intn(len(names))])
				}
				p.touch(t, keys, version)
			case 4:
				p.ack(t, r.Intn(p.broken+2))
			}
		}
		if t.Failed() {
			t.Fatalf("at the seed %d", seed)
		}
	}
}

func TestTablesHaveNothingInCommon(t *testing.T) {
	one, other := table(t, 1, 2, 2), table(t, 1, 2, 2)
	one.Grant(key(1, "a"), 0)
	one.Grant(key(1, ""), 0)
	holds(t, "the other one", other)
	says(t, "the other one", other.Touch([]api.Key{key(1, "a")}, 1))
	says(t, "the first one", one.Touch([]api.Key{key(1, "a")}, 1), broken(1+1i, 1, key(1, "a")))
	queues(t, "the other one", other, 1)
	if other.Ack(1 + 1i) {
		t.Error("Ack of a break of the first one")
	}
	other.Grant(key(2, "x"), 0)
	holds(t, "the first one", one, key(1, ""))
}

// The same calls answer the same, whatever happens elsewhere.
func TestTheSameAgain(t *testing.T) {
	script := func(v *vow.Table) (all [][]api.Break) {
		for i := range 40 {
			all = append(all, v.Grant(key(i%7, "a"), i), v.Touch(numbered(i%5), i), v.Queue())
			v.Ack(complex(1, float64(i/2)))
		}
		return all
	}
	first := script(table(t, 1, 3, 3))
	second := script(table(t, 1, 3, 3))
	for i := range first {
		says(t, "again", second[i], first[i]...)
	}
}
