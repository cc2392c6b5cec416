package boot_test

import (
	"fmt"
	"iter"
	"math/rand"
	"regexp"
	"slices"
	"testing"

	"vista/api"
	"vista/boot"
	"vista/tree"
)

// order is that of notes, a letter a note (o boot, b base, n node, s seen, d done): a snapshot may stand at the beginning.
var order = regexp.MustCompile(`^(bn*s*)?[od]*$`)

// model is what the chapter says of notes.
func model(notes []api.Note, clients int) (state, bool) {
	letters := ""
	now := begin(clients)
	var entries []api.Entry
	for _, n := range notes {
		letters += string(" obnsd"[n.Kind])
		switch {
		case n.Kind == api.NoteBase:
			now.base = n
		case n.Kind == api.NoteBoot:
			now.base.Epoch = n.Epoch
		case n.Kind == api.NoteNode:
			entries = append(entries, n.Entry)
		case n.Client < 1 || n.Client > clients:
			return state{}, false
		default:
			now.seen[n.Client-1] = n.Seen
		}
	}
	if !order.MatchString(letters) {
		return state{}, false
	}
	tr, e := tree.Load(entries, now.base.Version, now.base.Next)
	if e != api.OK {
		return state{}, false
	}
	for _, n := range notes {
		if n.Kind != api.NoteDone {
			continue
		}
		if _, _, e := tr.Apply(n.Op); e != n.Seen.Err || tr.Version() > api.MaxMark || tr.Next() > api.MaxMark {
			return state{}, false
		}
	}
	now.base.Version, now.base.Next, now.entries = tr.Version(), tr.Next(), tr.Dump()
	return now, true
}

// agrees fails if Read and Start do not answer as the model does, of a journal with so many blocks to spare; it tells whether the journal was right.
func agrees(t *testing.T, clients, spare int, notes ...api.Note) bool {
	t.Helper()
	records := packed(t, notes...)
	half := max(pieces(records...)+spare, 1)
	d := written(t, half, records...)
	what := fmt.Sprintf("%d clients, %+v", clients, notes)
	want, ok := model(notes, clients)
	if !ok {
		neither(t, what, d, clients, api.ErrRecord)
		return false
	}
	tells(t, what, d, want)
	if want.base.Epoch == api.MaxMark {
		starts(t, what, d, limits(clients), api.ErrArg)
		return true
	}
	behind := append(records, packed(t, started(want.base.Epoch+1))...)
	if pieces(behind...) > half {
		behind = packed(t, want.next().snapshot()...)
	}
	if pieces(behind...) > half {
		starts(t, what, d, limits(clients), api.ErrFull)
		return true
	}
	s, e := boot.Start(d, limits(clients))
	if s == nil || e != api.OK {
		t.Fatalf("%s: Start: %v, %d", what, s, e)
	}
	fresh(t, what, s, limits(clients), want.next())
	holds(t, what, d, behind...)
	return true
}

// lists are all lists of up to so many of n numbers.
func lists(n, most int) iter.Seq[[]int] {
	return func(yield func([]int) bool) {
		all := [][]int{nil}
		for len(all) > 0 {
			first := all[0]
			all = all[1:]
			if !yield(first) {
				return
			}
			for i := range n {
				if len(first) < most {
					all = append(all, append(slices.Clone(first), i))
				}
			}
		}
	}
}

// shortNotes are few, of which many lists are right.
func shortNotes() []api.Note {
	return []api.Note{
		started(3), started(api.MaxMark), base(4, 1, 5), base(9, api.MaxMark, api.MaxMark), base(5, 2, 1),
		node(dir(2, 1, "a")), node(dir(3, 2, "b")), seen(1, 1, 1, api.OK), seen(3, 1, 1, api.OK),
		done(1, 1, 2, api.OK, mkdir(1, "a")), done(2, 1, 1, api.ErrExist, mkdir(1, "a")), done(2, 1, 1, api.OK, rmdir(1, "a")), done(0, 1, 1, api.ErrStale, rmdir(9, "a")),
	}
}

func TestAllShortJournals(t *testing.T) {
	notes, right := shortNotes(), 0
	for list := range lists(len(notes), 4) {
		var these []api.Note
		for _, i := range list {
			these = append(these, notes[i])
		}
		if agrees(t, 2, len(list)%2, these...) {
			right++
		}
		if t.Failed() {
			t.Fatalf("at the list %d", list)
		}
	}
	if right < 200 {
		t.Errorf("%d journals are right", right)
	}
}

// Lists of up to six notes that are right but for the order of their kinds.
func TestAllOrders(t *testing.T) {
	right := 0
	for list := range lists(5, 6) {
		var these []api.Note
		for i, kind := range list {
			n := sample(1 + kind)
			if n.Kind == api.NoteNode {
				n = node(dir(2+i, 1, string(rune('a'+i))))
			}
			if n.Kind == api.NoteBase {
				n.Next = 9
			}
			these = append(these, n)
		}
		for spare := range 2 {
			if agrees(t, 1, spare, these...) {
				right++
			}
		}
		if t.Failed() {
			t.Fatalf("at the list %d", list)
		}
	}
	if right < 200 {
		t.Errorf("%d journals are right", right)
	}
}

// anyOp is a mutation of few names, so that much is met again.
func anyOp(r *rand.Rand) api.Op {
	names := []string{"a", "b", "c", "a", "b", "", "..", "too long for a name"}
	op := api.Op{Kind: api.OpCreate + r.Intn(7), Dir: 1 + r.Intn(4), Name: names[r.Intn(5)], To: 1 + r.Intn(4), New: names[r.Intn(5)], Mode: r.Intn(8), Target: "b/a"}
	if r.Intn(12) == 0 {
		op.Name, op.Dir = names[r.Intn(len(names))], r.Intn(12)
	}
	if r.Intn(8) == 0 {
		op.Target, op.Mode = target(r.Intn(api.MaxPath+1)), r.Intn(600)
	}
	if r.Intn(12) == 0 {
		op.New, op.Target = target(api.MaxPath), target(api.MaxPath)
	}
	return op
}

// anyJournal are notes that are right but for what chance makes of them.
func anyJournal(r *rand.Rand, clients int) []api.Note {
	var notes []api.Note
	tr := tree.New()
	anySeen := func(kind int, e api.Errno) api.Note {
		return api.Note{Kind: kind, Client: 1 + r.Intn(clients), Seen: api.Seen{Life: r.Intn(4), Seq: r.Intn(200), Err: e}}
	}
	if r.Intn(2) == 0 {
		for range r.Intn(30) {
			tr.Apply(anyOp(r))
		}
		if r.Intn(9) == 0 {
			tr, _ = tree.Load(tr.Dump(), api.MaxMark-r.Intn(4), api.MaxMark-r.Intn(4))
		}
		notes = append(notes, base(r.Intn(300), tr.Version(), tr.Next()))
		for _, entry := range tr.Dump() {
			notes = append(notes, node(entry))
		}
		for range r.Intn(4) {
			notes = append(notes, anySeen(api.NoteSeen, api.Errno(r.Intn(50))))
		}
	}
	for range r.Intn(30) {
		if r.Intn(5) == 0 {
			notes = append(notes, started(r.Intn(300)))
			continue
		}
		op := anyOp(r)
		_, _, e := tr.Apply(op)
		n := anySeen(api.NoteDone, e)
		n.Op = op
		notes = append(notes, n)
	}
	return notes
}

// spoilt are notes with a few of them changed, doubled, exchanged, or gone.
func spoilt(r *rand.Rand, notes []api.Note) []api.Note {
	for range 1 + r.Intn(2) {
		if len(notes) < 2 {
			return notes
		}
		i, j := r.Intn(len(notes)), r.Intn(len(notes))
		switch n := &notes[i]; r.Intn(7) {
		case 0:
			notes[i], notes[j] = notes[j], notes[i]
		case 1:
			notes = append(notes[:i], notes[i+1:]...)
		case 2:
			notes = append(notes[:i+1], notes[i:]...)
		case 3:
			notes = append(notes, notes[i])
		case 4:
			if n.Kind == api.NoteSeen || n.Kind == api.NoteDone {
				n.Client = r.Intn(6)
			}
		case 5:
			if n.Kind == api.NoteDone {
				n.Seen.Err = api.Errno(r.Intn(48))
			}
		case 6:
			if n.Kind == api.NoteNode {
				n.Entry.Node.ID, n.Entry.Key.Dir = r.Intn(9), 1+r.Intn(9)
			}
		}
	}
	return notes
}

func TestManyJournals(t *testing.T) {
	right := 0
	for seed := range 6000 {
		r := rand.New(rand.NewSource(int64(seed)))
		clients := 1 + r.Intn(api.MaxClients)
		notes := anyJournal(r, clients)
		if seed%3 == 0 {
			notes = spoilt(r, notes)
		}
		if agrees(t, clients, r.Intn(3), notes...) {
			right++
		}
		if t.Failed() {
			t.Fatalf("at the seed %d", seed)
		}
	}
	if right < 3500 || right > 5500 {
		t.Errorf("%d journals are right", right)
	}
}

// Whatever bytes the blocks hold, Read and Start end, and answer the error that they must.
func TestAnyBlocks(t *testing.T) {
	for seed := range 2000 {
		r := rand.New(rand.NewSource(int64(seed)))
		d := noted(t, anyJournal(r, 2)...)
		for range 1 + r.Intn(3) {
			i := r.Intn(d.Size())
			b, _ := d.Read(i)
			for range 1 + r.Intn(3) {
				b[r.Intn(24)] ^= 1 << r.Intn(8)
			}
			d.Write(i, b)
		}
		before := image(d)
		n, entries, seen, e := boot.Read(d, 2)
		if e != api.OK && (e != api.ErrRecord && e != api.ErrScroll || n != (api.Note{}) || len(entries)+len(seen) > 0) {
			t.Errorf("the seed %d: %v, %v, %v, %d", seed, n, entries, seen, e)
		}
		if image(d) != before {
			t.Errorf("the seed %d: Read has changed the disk", seed)
		}
		s, again := boot.Start(d, limits(2))
		if e != api.OK && (s != nil || again != e) {
			t.Errorf("the seed %d: Start: %v, %d, not %d", seed, s, again, e)
		}
	}
}
