package serve_test

import (
	"maps"
	"slices"
	"testing"

	"vista/api"
	"vista/mark"
	"vista/tree"
	"vista/vow"
	"vista/wire"
)

// life is a session of the model.
type life struct {
	number, seq, full int
	table             *vow.Table
}

// model is a server as the chapter tells it, step by step; its journal is a list of notes, and how many blocks they may take.
type model struct {
	conf    api.Conf
	epoch   int
	tree    *tree.Tree
	seen    map[int]api.Seen
	lives   map[int]*life
	journal []api.Note
	half    int
}

func newModel(conf api.Conf, half, epoch int, now state, journal []api.Note) *model {
	m := &model{conf: conf, epoch: epoch, tree: now.tree.Copy(), seen: map[int]api.Seen{}, lives: map[int]*life{}, journal: journal, half: half}
	for i, seen := range now.seen {
		m.seen[i+1] = seen
	}
	return m
}

// pieces is how many blocks notes take.
func pieces(all ...api.Note) int {
	n := 0
	for _, one := range all {
		b, _ := wire.Pack(one)
		n += (len(b) + 52) / 53
	}
	return n
}

func (m *model) snapshot(tr *tree.Tree, seen map[int]api.Seen) []api.Note {
	all := []api.Note{base(m.epoch, tr.Version(), tr.Next())}
	for _, entry := range tr.Dump() {
		all = append(all, node(entry))
	}
	for _, client := range slices.Sorted(maps.Keys(seen)) {
		if one := seen[client]; one.Life > 0 {
			all = append(all, seenOf(client, one.Life, one.Seq, one.Err))
		}
	}
	return all
}

// keep tells whether a note could be kept.
func (m *model) keep(one api.Note, tr *tree.Tree) bool {
	seen := maps.Clone(m.seen)
	seen[one.Client] = one.Seen
	if pieces(m.snapshot(tr, seen)...) > m.half-1 || tr.Version() > api.MaxMark || tr.Next() > api.MaxMark || pieces(one) == 0 {
		return false
	}
	if pieces(m.journal...)+pieces(one) > m.half {
		turned := m.snapshot(m.tree, m.seen)
		if pieces(turned...) > m.half {
			return false
		}
		m.journal = turned
	}
	if pieces(m.journal...)+pieces(one) > m.half {
		return false
	}
	m.journal = append(m.journal, one)
	return true
}

// send is what breaks look like on their way.
func (m *model) send(client int, breaks []api.Break) []api.Msg {
	var out []api.Msg
	for _, b := range breaks {
		if b.All {
			out = append(out, flush(client, m.lives[client].number, b.Mark, b.Version))
		} else {
			out = append(out, broken(client, m.lives[client].number, b.Mark, b.Version, b.Keys...))
		}
	}
	return out
}

func (m *model) reply(a api.Msg, e api.Errno, entries ...api.Entry) api.Msg {
	return reply(a, m.lives[a.Client].table.Mark(), m.tree.Version(), e, entries...)
}

func (m *model) handle(a api.Msg) []api.Msg {
	if a.Kind != api.MsgAsk || a.Client < 1 || a.Client > m.conf.Clients || a.Life < 1 || a.Seq < 1 || !mark.Good(a.Mark) {
		return nil
	}
	if l := m.lives[a.Client]; l == nil || l.number < a.Life {
		table, _ := vow.New(m.epoch, m.conf.Promises, m.conf.Queue)
		m.lives[a.Client] = &life{number: a.Life, table: table}
	}
	l := m.lives[a.Client]
	if l.number > a.Life {
		return nil
	}
	if int(real(a.Mark)) != m.epoch {
		return []api.Msg{m.reply(a, api.ErrEpoch)}
	}
	if !l.table.Ack(a.Mark) {
		return nil
	}
	if a.Op.Kind == api.OpAgain {
		return m.send(a.Client, l.table.Queue())
	}
	if a.Seq < l.seq {
		return nil
	}
	l.seq = a.Seq
	switch {
	case a.Op.Kind == api.OpSync:
		return []api.Msg{m.reply(a, api.OK)}
	case a.Op.Kind == api.OpLook:
		entry, e := m.tree.Look(a.Op.Dir, a.Op.Name)
		return m.read(a, key(a.Op.Dir, a.Op.Name), e, entry)
	case a.Op.Kind == api.OpList:
		entries, e := m.tree.List(a.Op.Dir)
		return m.read(a, key(a.Op.Dir, ""), e, entries...)
	case a.Op.Kind >= api.OpCreate && a.Op.Kind <= api.OpSetattr:
		return m.mutate(a)
	}
	return nil
}

func (m *model) read(a api.Msg, k api.Key, e api.Errno, entries ...api.Entry) []api.Msg {
	if e != api.OK {
		return []api.Msg{m.reply(a, e)}
	}
	table := m.lives[a.Client].table
	out := m.send(a.Client, table.Grant(k, m.tree.Version()))
	if !table.Holds(k) {
		return append(out, m.reply(a, api.ErrBusy))
	}
	return append(out, m.reply(a, api.OK, entries...))
}

func (m *model) mutate(a api.Msg) []api.Msg {
	seen, l := m.seen[a.Client], m.lives[a.Client]
	if seen.Life > a.Life || seen.Life == a.Life && seen.Seq > a.Seq {
		return nil
	}
	if seen.Life == a.Life && seen.Seq == a.Seq {
		return []api.Msg{m.reply(a, seen.Err)}
	}
	if l.full == a.Seq {
		return []api.Msg{m.reply(a, api.ErrFull)}
	}
	tr := m.tree.Copy()
	entries, keys, e := tr.Apply(a.Op)
	if !m.keep(done(a, e), tr) {
		l.full = a.Seq
		return []api.Msg{m.reply(a, api.ErrFull)}
	}
	m.seen[a.Client] = api.Seen{Life: a.Life, Seq: a.Seq, Err: e}
	if e != api.OK {
		return []api.Msg{m.reply(a, e)}
	}
	m.tree = tr
	var out []api.Msg
	for client := 1; client <= m.conf.Clients; client++ {
		if m.lives[client] != nil {
			out = append(out, m.send(client, m.lives[client].table.Touch(keys, tr.Version()))...)
		}
	}
	for _, entry := range entries {
		out = append(out, m.send(a.Client, l.table.Grant(entry.Key, tr.Version()))...)
	}
	entries = slices.DeleteFunc(entries, func(entry api.Entry) bool { return !l.table.Holds(entry.Key) })
	return append(out, m.reply(a, api.OK, entries...))
}

// agrees fails if a server tells something else than the model.
func (m *model) agrees(t *testing.T, p *play) {
	t.Helper()
	now := state{tree: m.tree}
	for client := 1; client <= m.conf.Clients; client++ {
		now.seen = append(now.seen, m.seen[client])
		var want []api.Key
		var queue []api.Break
		var at complex128
		if l := m.lives[client]; l != nil {
			want, queue, at = l.table.Promises(), l.table.Queue(), l.table.Mark()
		}
		if got := p.s.Promises(client); !slices.Equal(got, want) {
			t.Errorf("promised %d: %v, not %v", client, got, want)
		}
		if p.s.Mark(client) != at || len(p.s.Queue(client)) != len(queue) {
			t.Errorf("of %d: %v, %v, not %v, %v", client, p.s.Mark(client), p.s.Queue(client), at, queue)
		}
	}
	same(t, "the server", stateOf(p.s, m.conf.Clients), now)
	if p.s.Epoch() != m.epoch || p.s.Version() != m.tree.Version() {
		t.Errorf("epoch %d, version %d", p.s.Epoch(), p.s.Version())
	}
}
