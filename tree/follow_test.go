package tree_test

import (
	"slices"
	"strings"
	"testing"

	"vista/api"
	"vista/name"
	"vista/tree"
)

// P5.5

// place is a node of the model: what it is, and where it hangs.
type place struct {
	node   api.Node
	parent int
	name   string
}

// model is a tree as the chapter tells it: nodes by their ids, each of which knows where it hangs.
type model struct {
	nodes         map[int]place
	version, next int
}

func newModel() *model {
	root := place{node: api.Node{ID: api.Root, Kind: api.KindDir}}
	return &model{nodes: map[int]place{api.Root: root}, next: api.Root + 1}
}

// at is the id of a name, 0 if there is none.
func (m *model) at(dir int, name string) int {
	for id, p := range m.nodes {
		if p.parent == dir && p.name == name {
			return id
		}
	}
	return 0
}

func (m *model) names(dir int) int {
	n := 0
	for _, p := range m.nodes {
		if p.parent == dir {
			n++
		}
	}
	return n
}

func (m *model) isDir(id int) bool { return m.nodes[id].node.Kind == api.KindDir }

// below tells whether a node is another one, or lies in it.
func (m *model) below(id, other int) bool {
	return id == other || id != 0 && m.below(m.nodes[id].parent, other)
}

func (m *model) keyError(dir int, called string) api.Errno {
	p, ok := m.nodes[dir]
	switch {
	case !ok:
		return api.ErrStale
	case p.node.Kind != api.KindDir:
		return api.ErrNotDir
	}
	return name.Check(called)
}

// firstError is the first error of an op's row.
func (m *model) firstError(op api.Op) api.Errno {
	if op.Kind < api.OpCreate || op.Kind > api.OpSetattr {
		return api.ErrArg
	}
	if e := m.keyError(op.Dir, op.Name); e != api.OK {
		return e
	}
	id := m.at(op.Dir, op.Name)
	switch op.Kind {
	case api.OpCreate, api.OpMkdir, api.OpSymlink:
		return m.newError(op, id)
	case api.OpUnlink:
		return m.goneError(id, false)
	case api.OpRmdir:
		return m.goneError(id, true)
	case api.OpRename:
		return m.renameError(op, id)
	}
	if op.Mode < 0 || op.Mode > 511 {
		return api.ErrArg
	}
	if id == 0 {
		return api.ErrNotFound
	}
	return api.OK
}

func (m *model) newError(op api.Op, id int) api.Errno {
	_, _, _, target := name.Target(op.Target)
	switch {
	case op.Kind != api.OpSymlink && (op.Mode < 0 || op.Mode > 511):
		return api.ErrArg
	case op.Kind == api.OpSymlink && target != api.OK:
		return target
	case id != 0:
		return api.ErrExist
	case len(m.nodes) == 48:
		return api.ErrRoom
	}
	return api.OK
}

func (m *model) goneError(id int, dir bool) api.Errno {
	switch {
	case id == 0:
		return api.ErrNotFound
	case !dir && m.isDir(id):
		return api.ErrIsDir
	case dir && !m.isDir(id):
		return api.ErrNotDir
	case m.names(id) > 0:
		return api.ErrNotEmpty
	}
	return api.OK
}

func (m *model) renameError(op api.Op, id int) api.Errno {
	if e := m.keyError(op.To, op.New); e != api.OK {
		return e
	}
	other := m.at(op.To, op.New)
	switch {
	case id == 0:
		return api.ErrNotFound
	case m.isDir(id) && m.below(op.To, id):
		return api.ErrInside
	case other == 0 || other == id:
		return api.OK
	case m.isDir(id) && !m.isDir(other):
		return api.ErrNotDir
	case !m.isDir(id) && m.isDir(other):
		return api.ErrIsDir
	case m.names(other) > 0:
		return api.ErrNotEmpty
	}
	return api.OK
}

// apply does an op that has no error, and tells the keys that are other ones now.
func (m *model) apply(op api.Op) []api.Key {
	m.version++
	id := m.at(op.Dir, op.Name)
	keys := []api.Key{{Dir: op.Dir, Name: op.Name}}
	p := m.nodes[id]
	switch op.Kind {
	case api.OpCreate:
		m.add(op, api.Node{Kind: api.KindFile, Mode: op.Mode})
	case api.OpMkdir:
		m.add(op, api.Node{Kind: api.KindDir, Mode: op.Mode})
	case api.OpSymlink:
		m.add(op, api.Node{Kind: api.KindLink, Target: op.Target})
	case api.OpUnlink, api.OpRmdir:
		delete(m.nodes, id)
	case api.OpSetattr:
		p.node.Mode = op.Mode
		m.nodes[id] = p
	case api.OpRename:
		if op.Dir == op.To && op.Name == op.New {
			break
		}
		delete(m.nodes, m.at(op.To, op.New))
		p.parent, p.name = op.To, op.New
		m.nodes[id] = p
		keys = append(keys, api.Key{Dir: op.To, Name: op.New})
		if op.To < op.Dir || op.To == op.Dir && op.New < op.Name {
			slices.Reverse(keys)
		}
	}
	return keys
}

func (m *model) add(op api.Op, node api.Node) {
	node.ID = m.next
	m.nodes[m.next] = place{node: node, parent: op.Dir, name: op.Name}
	m.next++
}

// entry is what a key is.
func (m *model) entry(key api.Key) api.Entry {
	if id := m.at(key.Dir, key.Name); id != 0 {
		return api.Entry{Key: key, Node: m.nodes[id].node}
	}
	return api.Entry{Key: key, Neg: true}
}

// dump is all entries, rising.
func (m *model) dump() []api.Entry {
	var l []api.Entry
	for id, p := range m.nodes {
		if id != api.Root {
			l = append(l, api.Entry{Key: api.Key{Dir: p.parent, Name: p.name}, Node: p.node})
		}
	}
	slices.SortFunc(l, func(a, b api.Entry) int {
		if a.Key.Dir != b.Key.Dir {
			return a.Key.Dir - b.Key.Dir
		}
		return strings.Compare(a.Key.Name, b.Key.Name)
	})
	return l
}

// step does an op to a tree and its model, and fails if they come to something else.
func step(t *testing.T, x *tree.Tree, m *model, op api.Op) {
	t.Helper()
	want := m.firstError(op)
	var keys []api.Key
	var entries []api.Entry
	if want == api.OK {
		keys = m.apply(op)
	}
	for _, key := range keys {
		entries = append(entries, m.entry(key))
	}
	if l, k, e := x.Apply(op); e != want || !slices.Equal(l, entries) || !slices.Equal(k, keys) {
		t.Fatalf("%v: %v, %v, %d, not %v, %v, %d", op, l, k, e, entries, keys, want)
	}
	if x.Version() != m.version || x.Next() != m.next || x.Count() != len(m.nodes) {
		t.Fatalf("%v: version %d, next %d, count %d, not %d, %d, %d", op, x.Version(), x.Next(), x.Count(), m.version, m.next, len(m.nodes))
	}
	for _, entry := range entries {
		got, e := x.Look(entry.Key.Dir, entry.Key.Name)
		// A key of a directory that made way for its own node would be stale; there is none such.
		if e != api.OK || got != entry {
			t.Fatalf("%v: Look: %v, %d, not %v", op, got, e, entry)
		}
	}
}

// scriptOps are the ops of which scripts are made.
func scriptOps() []api.Op {
	return []api.Op{
		mkdir(1, "a", 1), mkdir(1, "b", 2), mkdir(2, "a", 3), mkdir(3, "b", 4),
		create(1, "a", 5), symlink(2, "b", "a"),
		unlink(1, "a"), unlink(2, "b"), rmdir(1, "a"), rmdir(1, "b"), rmdir(2, "a"),
		rename(1, "a", 1, "b"), rename(1, "b", 1, "a"), rename(1, "a", 2, "a"), rename(1, "a", 3, "b"), rename(1, "b", 2, "b"),
		rename(2, "a", 1, "b"), rename(2, "b", 1, "a"), rename(2, "a", 2, "a"), setattr(1, "a", 6),
	}
}

func TestEveryShortScript(t *testing.T) {
	ops := scriptOps()
	const long = 4
	scripts := 1
	for range long {
		scripts *= len(ops)
	}
	for number := range scripts {
		x, m := tree.New(), newModel()
		// A directory is there at each script's beginning, or most of them would find nothing.
		step(t, x, m, ops[0])
		for rest, i := number, 0; i < long; i++ {
			step(t, x, m, ops[rest%len(ops)])
			rest /= len(ops)
		}
		if got, want := x.Dump(), m.dump(); !slices.Equal(got, want) {
			t.Fatalf("script %d: %v, not %v", number, got, want)
		}
	}
}

// numbers are ones that never settle.
type numbers uint64

func (n *numbers) below(limit int) int {
	*n = *n*6364136223846793005 + 1442695040888963407
	return int(uint64(*n)>>33) % limit
}

// someOp is an op that often finds something: mostly about nodes that are there, sometimes about none.
func someOp(n *numbers, m *model) api.Op {
	names := []string{"a", "b", "c", "B", "\xff", "", strings.Repeat("x", 13)}
	ids := []int{api.Root, api.Root, 0, m.next, m.next - 1}
	for id := range m.next {
		if m.isDir(id) {
			ids = append(ids, id, id)
		}
	}
	return api.Op{
		Kind:   api.OpAgain + n.below(api.OpSetattr-api.OpAgain+1),
		Dir:    ids[n.below(len(ids))],
		Name:   names[n.below(len(names)*9)%9%len(names)],
		To:     ids[n.below(len(ids))],
		New:    names[n.below(len(names)*9)%9%len(names)],
		Mode:   n.below(520) - 4,
		Target: []string{"a", "/b/", "..", "\x00"}[n.below(4)],
	}
}

func TestLongScripts(t *testing.T) {
	for seed := range 6 {
		x, m := tree.New(), newModel()
		n := numbers(seed)
		most := 0
		for i := range 4000 {
			op := someOp(&n, m)
			// What makes nodes and what loses them have their times, so that a tree grows full and falls empty again.
			loses := op.Kind == api.OpUnlink || op.Kind == api.OpRmdir
			if i/500%2 == 0 && loses && n.below(8) > 0 {
				continue
			}
			step(t, x, m, op)
			most = max(most, x.Count())
			if i%50 == 0 {
				x = holds(t, x, m)
			}
		}
		if most != api.MaxNodes {
			t.Errorf("seed %d: %d nodes at most: the scripts are too short to tell about room", seed, most)
		}
	}
}

// holds fails if a tree is another one than its model, or does not hang together. It answers the tree that is loaded from its Dump, to go on with.
func holds(t *testing.T, x *tree.Tree, m *model) *tree.Tree {
	t.Helper()
	dump := x.Dump()
	if want := m.dump(); !slices.Equal(dump, want) {
		t.Fatalf("%v, not %v", dump, want)
	}
	ids := map[int]int{api.Root: 0}
	for _, entry := range dump {
		if _, twice := ids[entry.Node.ID]; twice {
			t.Fatalf("the node %d has two names: %v", entry.Node.ID, dump)
		}
		ids[entry.Node.ID] = entry.Key.Dir
	}
	for id := range ids {
		for range dump {
			if ids[id] != 0 {
				id = ids[id]
			}
		}
		if id != api.Root {
			t.Fatalf("%d comes to no root: %v", id, dump)
		}
	}
	y, e := tree.Load(dump, x.Version(), x.Next())
	if e != api.OK {
		t.Fatalf("Load of %v: %d", dump, e)
	}
	alike(t, "loaded", x, y)
	return y
}

func TestAMutationChangesNoEntryButThoseOfItsKeys(t *testing.T) {
	x, m := tree.New(), newModel()
	n := numbers(77)
	for range 3000 {
		was := x.Dump()
		op := someOp(&n, m)
		entries, keys, e := x.Apply(op)
		if e == api.OK {
			// The model says which ops find something.
			m.apply(op)
		}
		if !slices.Equal(keys, keysOf(entries)) {
			t.Fatalf("%v: %v, %v", op, entries, keys)
		}
		if got, want := x.Dump(), with(was, entries...); !slices.Equal(got, want) {
			t.Fatalf("%v: %v, not %v", op, got, want)
		}
	}
}

func TestIdsAreNeverUsedAgain(t *testing.T) {
	x := tree.New()
	last := api.Root
	for range 200 {
		for _, op := range []api.Op{create(1, "a", 0), mkdir(1, "b", 0), symlink(1, "c", "x")} {
			entries, _, e := x.Apply(op)
			if e != api.OK || len(entries) != 1 || entries[0].Node.ID != last+1 || x.Next() != last+2 {
				t.Fatalf("%v: %v, %d, next %d behind the id %d", op, entries, e, x.Next(), last)
			}
			last++
			// What is refused gives no id.
			refuses(t, x, op, api.ErrExist)
		}
		does(t, x, rename(1, "a", 1, "c"), unlink(1, "c"), rmdir(1, "b"))
		x = loaded(t, "the root alone", x.Dump(), x.Version(), x.Next())
	}
}
