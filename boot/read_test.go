package boot_test

import (
	"fmt"
	"math"
	"slices"
	"testing"

	"vista/api"
	"vista/block"
	"vista/boot"
)

// P10.2

func TestClients(t *testing.T) {
	d := noted(t, started(3))
	for _, clients := range []int{0, -1, api.MaxClients + 1, math.MinInt, math.MaxInt} {
		refuses(t, fmt.Sprint(clients, " clients"), d, clients, api.ErrArg)
	}
	for clients := 1; clients <= api.MaxClients; clients++ {
		want := begin(clients)
		want.base.Epoch = 3
		tells(t, fmt.Sprint(clients, " clients"), d, want)
	}
}

func TestNoJournal(t *testing.T) {
	for _, blocks := range []int{1, 2, 3, 30, api.MaxBlocks} {
		neither(t, fmt.Sprint(blocks, " blocks"), raw(t, blocks), 2, api.ErrScroll)
	}
	d := noted(t, started(3))
	b, _ := d.Read(0)
	b[63] = 1
	d.Write(0, b)
	neither(t, "a spoilt header", d, 2, api.ErrScroll)
}

func TestNoNotes(t *testing.T) {
	for _, blocks := range []int{3, 4, 5, 30, api.MaxBlocks} {
		tells(t, fmt.Sprint(blocks, " blocks"), formatted(t, blocks), begin(2))
	}
}

// everyNote are notes of each kind, in an order in which they may stand, and what they say.
func everyNote() ([]api.Note, state) {
	notes := []api.Note{
		base(5, 7, 9),
		node(dir(4, 1, "a")),
		node(link(2, 1, "l", target(96))),
		node(file(8, 3, "f", api.MaxMode)),
		node(dir(3, 4, "deep")),
		seen(2, 3, 9, api.ErrInside),
		seen(1, 1, 1, api.OK),
		done(1, 1, 2, api.OK, mkdir(3, "z")),
		done(2, 4, 1, api.ErrNotFound, rmdir(1, "b")),
		started(6),
		done(1, 2, 1, api.OK, api.Op{Kind: api.OpUnlink, Dir: 1, Name: "l"}),
		done(3, 1, 8, api.OK, rename(3, "f", 9, "g")),
		started(77),
	}
	return notes, state{
		base:    base(77, 10, 10),
		entries: []api.Entry{dir(4, 1, "a"), dir(9, 3, "z"), dir(3, 4, "deep"), file(8, 9, "g", api.MaxMode)},
		seen:    []api.Seen{{Life: 2, Seq: 1}, {Life: 4, Seq: 1, Err: api.ErrNotFound}, {Life: 1, Seq: 8}},
	}
}

func TestEveryNote(t *testing.T) {
	// What lies in the directory 3 is told ahead of the directory: it hangs below the root once all is told.
	notes, want := everyNote()
	tells(t, "every note", noted(t, notes...), want)
	notes[3], notes[4] = notes[4], notes[3]
	neither(t, "not rising", noted(t, notes...), 3, api.ErrRecord)
	notes[3], notes[4] = notes[4], notes[3]
	neither(t, "two clients", noted(t, notes...), 2, api.ErrRecord)
	want.seen = append(want.seen, api.Seen{})
	tells(t, "four clients", noted(t, notes...), want)
	// Its parts, as they are behind each note that need not be followed by another.
	tells(t, "base", noted(t, notes[0]), state{base: notes[0], seen: make([]api.Seen, 3)})
	tells(t, "node", noted(t, notes[:2]...), state{base: notes[0], entries: []api.Entry{dir(4, 1, "a")}, seen: make([]api.Seen, 3)})
	neither(t, "a node below nothing", noted(t, notes[:4]...), 3, api.ErrRecord)
	entries := []api.Entry{notes[1].Entry, notes[2].Entry, notes[3].Entry, notes[4].Entry}
	tells(t, "nodes", noted(t, notes[:5]...), state{base: notes[0], entries: entries, seen: make([]api.Seen, 3)})
	tells(t, "seen", noted(t, notes[:7]...), state{base: notes[0], entries: entries, seen: []api.Seen{{Life: 1, Seq: 1}, {Life: 3, Seq: 9, Err: api.ErrInside}, {}}})
}

// Read is asked of what is on the disk, with power or without.
func TestReadWithoutPower(t *testing.T) {
	notes, want := everyNote()
	d := noted(t, notes...)
	d.Fuse(0)
	tells(t, "a fuse", d, want)
	if !d.On() {
		t.Error("Read has burned the fuse")
	}
	d.Cut()
	tells(t, "cut", d, want)
}

func TestRecordsThatAreNoNotes(t *testing.T) {
	notes, _ := everyNote()
	records := packed(t, notes...)
	half := pieces(records...) + 9
	for _, odd := range [][]byte{{0}, {6, 1}, {255}, {1}, {1, 1, 1}, {1, 0x80, 0}, {2, 1, 2}, {4, 1}, []byte("any bytes"), make([]byte, api.MaxRecord)} {
		for at := range len(records) + 1 {
			neither(t, fmt.Sprintf("%x at %d", odd, at), written(t, half, slices.Insert(slices.Clone(records), at, odd)...), 4, api.ErrRecord)
		}
	}
	// Each record cut by a byte, or with one behind it.
	for i, record := range records {
		cut, more := slices.Clone(records), slices.Clone(records)
		cut[i], more[i] = record[:len(record)-1], append(slices.Clone(record), 0)
		neither(t, "cut", written(t, half, cut...), 4, api.ErrRecord)
		neither(t, "with a byte behind it", written(t, half, more...), 4, api.ErrRecord)
	}
}

// sample is a note of each kind that is right wherever its kind may stand.
func sample(kind int) api.Note {
	return []api.Note{
		api.NoteBoot: started(4),
		api.NoteBase: base(3, 1, 5),
		api.NoteNode: node(dir(2, 1, "a")),
		api.NoteSeen: seen(1, 1, 1, api.OK),
		api.NoteDone: done(1, 1, 2, api.ErrStale, mkdir(99, "x")),
	}[kind]
}

func TestOrder(t *testing.T) {
	after := func(notes ...api.Note) []api.Note { return append([]api.Note{sample(api.NoteBase)}, notes...) }
	// A way to each kind, from the beginning on.
	ways := map[int][]api.Note{
		0:            nil,
		api.NoteBoot: {sample(api.NoteBoot)},
		api.NoteBase: after(),
		api.NoteNode: after(node(dir(3, 1, "A"))),
		api.NoteSeen: after(seen(2, 1, 1, api.OK)),
		api.NoteDone: {sample(api.NoteDone)},
	}
	allowed := map[[2]int]bool{
		{0, api.NoteBase}:            true,
		{api.NoteBase, api.NoteNode}: true, {api.NoteNode, api.NoteNode}: true,
		{api.NoteBase, api.NoteSeen}: true, {api.NoteNode, api.NoteSeen}: true, {api.NoteSeen, api.NoteSeen}: true,
	}
	for last, way := range ways {
		for kind := api.NoteBoot; kind <= api.NoteDone; kind++ {
			what := fmt.Sprintf("the kind %d behind %d", kind, last)
			d := noted(t, append(slices.Clone(way), sample(kind))...)
			if kind != api.NoteBoot && kind != api.NoteDone && !allowed[[2]int{last, kind}] {
				neither(t, what, d, 2, api.ErrRecord)
				continue
			}
			if _, _, _, e := boot.Read(d, 2); e != api.OK {
				t.Errorf("%s: %d", what, e)
			}
		}
	}
	// What has stood earlier does not help, what stands later does not mend.
	for _, notes := range [][]api.Note{
		after(started(9), sample(api.NoteNode)),
		after(sample(api.NoteDone), sample(api.NoteNode)),
		after(sample(api.NoteSeen), sample(api.NoteNode)),
		after(sample(api.NoteSeen), started(9), sample(api.NoteSeen)),
		after(sample(api.NoteNode), sample(api.NoteDone), sample(api.NoteSeen)),
		after(sample(api.NoteNode), sample(api.NoteBase)),
		{sample(api.NoteBoot), sample(api.NoteBase), sample(api.NoteNode)},
		{sample(api.NoteNode), sample(api.NoteBase)},
		{sample(api.NoteSeen), sample(api.NoteBase)},
	} {
		neither(t, fmt.Sprint(notes), noted(t, notes...), 2, api.ErrRecord)
	}
}

// A NoteBoot may stand anywhere, and gives whatever epoch it says, also a lesser one.
func TestBootAnywhere(t *testing.T) {
	all, want := everyNote()
	for _, epoch := range []int{0, 1, api.MaxMark} {
		for at := range len(all) + 1 {
			d := noted(t, slices.Insert(slices.Clone(all), at, started(epoch))...)
			if at < 7 {
				// Ahead of the base, or within the snapshot, it makes the note behind it wrong.
				neither(t, "within the snapshot", d, 3, api.ErrRecord)
				continue
			}
			is := want
			if at == len(all) {
				is.base.Epoch = epoch
			}
			tells(t, "behind the snapshot", d, is)
		}
	}
	tells(t, "a lesser epoch", noted(t, started(9), started(2)), state{base: base(2, 0, 2), seen: make([]api.Seen, 2)})
	tells(t, "ahead of a mutation", noted(t, started(9), done(1, 1, 1, api.OK, mkdir(1, "a"))),
		state{base: base(9, 1, 3), entries: []api.Entry{dir(2, 1, "a")}, seen: []api.Seen{{Life: 1, Seq: 1}}})
	tells(t, "behind a base", noted(t, base(9, 4, 7), started(3)), state{base: base(3, 4, 7), seen: make([]api.Seen, 1)})
}

func TestClientsOfNotes(t *testing.T) {
	for clients := 1; clients <= api.MaxClients; clients++ {
		for client := range api.MaxClients + 2 {
			for _, d := range []*block.Disk{
				noted(t, base(1, 0, 2), seen(client, 1, 2, api.ErrExist)),
				noted(t, done(client, 1, 2, api.ErrStale, mkdir(7, "a"))),
				noted(t, base(1, 0, 2), seen(client, 0, 0, api.OK)),
				noted(t, started(1), done(client, 0, 0, api.OK, mkdir(1, "a"))),
			} {
				_, _, got, e := boot.Read(d, clients)
				if client < 1 || client > clients {
					neither(t, fmt.Sprintf("client %d of %d", client, clients), d, clients, api.ErrRecord)
					continue
				}
				if e != api.OK || len(got) != clients {
					t.Errorf("client %d of %d: %v, %d", client, clients, got, e)
				}
			}
		}
		neither(t, "a great client", noted(t, base(1, 0, 2), seen(api.MaxMark, 1, 2, api.OK)), clients, api.ErrRecord)
		neither(t, "a great client", noted(t, done(api.MaxMark, 1, 2, api.OK, mkdir(1, "a"))), clients, api.ErrRecord)
	}
}

// The last note of a client is its seen, whatever its numbers are.
func TestTheLastSeen(t *testing.T) {
	tells(t, "twice", noted(t, base(1, 0, 2), seen(1, 5, 5, api.ErrExist), seen(2, 1, 1, api.OK), seen(1, 2, 3, api.OK)),
		state{base: base(1, 0, 2), seen: []api.Seen{{Life: 2, Seq: 3}, {Life: 1, Seq: 1}}})
	tells(t, "done", noted(t, base(1, 0, 2), seen(1, 5, 5, api.ErrExist), done(1, 0, 0, api.ErrStale, mkdir(9, "a"))),
		state{base: base(1, 0, 2), seen: []api.Seen{{Err: api.ErrStale}, {}}})
	tells(t, "none", noted(t, base(1, 0, 2), seen(1, 5, 5, api.ErrExist), seen(1, 0, 0, api.OK)),
		state{base: base(1, 0, 2), seen: make([]api.Seen, 2)})
	great := api.Seen{Life: api.MaxMark, Seq: api.MaxMark, Err: api.MaxMark}
	tells(t, "great", noted(t, base(1, 0, 2), api.Note{Kind: api.NoteSeen, Client: 2, Seen: great}), state{base: base(1, 0, 2), seen: []api.Seen{{}, great}})
}

func TestEntriesThatAreRefused(t *testing.T) {
	many := []api.Entry{}
	for i := range api.MaxNodes {
		many = append(many, dir(2+i, 1, fmt.Sprintf("%02d", i)))
	}
	over := file(2, 1, "a", api.MaxMode+1)
	aimed := dir(2, 1, "a")
	aimed.Node.Target = "x"
	for _, x := range []struct {
		what    string
		base    api.Note
		entries []api.Entry
	}{
		{"next is the root", base(1, 0, 1), nil},
		{"next is 0", base(1, 0, 0), nil},
		{"a key twice", base(1, 0, 9), []api.Entry{dir(2, 1, "a"), dir(3, 1, "a")}},
		{"falling", base(1, 0, 9), []api.Entry{dir(2, 1, "b"), dir(3, 1, "a")}},
		{"falling directories", base(1, 0, 9), []api.Entry{dir(3, 2, "a"), dir(2, 1, "a")}},
		{"an id twice", base(1, 0, 9), []api.Entry{dir(2, 1, "a"), dir(2, 1, "b")}},
		{"an id of next", base(1, 0, 3), []api.Entry{dir(3, 1, "a")}},
		{"the root's id", base(1, 0, 9), []api.Entry{dir(1, 1, "a")}},
		{"the id 0", base(1, 0, 9), []api.Entry{dir(0, 1, "a")}},
		{"below nothing", base(1, 0, 9), []api.Entry{dir(2, 7, "a")}},
		{"below a file", base(1, 0, 9), []api.Entry{file(2, 1, "a", 0), dir(3, 2, "a")}},
		{"below itself", base(1, 0, 9), []api.Entry{dir(2, 2, "a")}},
		{"below each other", base(1, 0, 9), []api.Entry{dir(3, 2, "a"), dir(2, 3, "a")}},
		{"no name", base(1, 0, 9), []api.Entry{dir(2, 1, "")}},
		{"a wrong name", base(1, 0, 9), []api.Entry{dir(2, 1, "..")}},
		{"a long name", base(1, 0, 9), []api.Entry{dir(2, 1, "abcdefghijklm")}},
		{"a great mode", base(1, 0, 9), []api.Entry{over}},
		{"no target", base(1, 0, 9), []api.Entry{link(2, 1, "a", "")}},
		{"a target of a directory", base(1, 0, 9), []api.Entry{aimed}},
		{"too many", base(1, 0, 99), many},
	} {
		notes := []api.Note{x.base}
		for _, entry := range x.entries {
			notes = append(notes, node(entry))
		}
		neither(t, x.what, noted(t, notes...), 2, api.ErrRecord)
		// Whatever stands behind them, also what would make them right.
		neither(t, x.what, noted(t, append(notes, seen(1, 1, 1, api.OK), started(4))...), 2, api.ErrRecord)
		for _, e := range []api.Errno{api.OK, api.ErrStale, api.ErrArg} {
			neither(t, x.what, noted(t, append(notes, done(1, 1, 1, e, rmdir(1, "a")))...), 2, api.ErrRecord)
		}
	}
	// As many as may be.
	notes := []api.Note{base(1, 0, 49)}
	for _, entry := range many[1:] {
		entry.Node.ID--
		notes = append(notes, node(entry))
	}
	n, entries, _, e := boot.Read(noted(t, notes...), 2)
	if e != api.OK || n != base(1, 0, 49) || len(entries) != api.MaxNodes-1 {
		t.Errorf("a great tree: %v, %d entries, %d", n, len(entries), e)
	}
	tells(t, "the least next", noted(t, base(1, 0, 2)), state{base: base(1, 0, 2), seen: make([]api.Seen, 2)})
}

// A NoteDone's Err is what Apply answers: any other one is refused.
func TestErrOfDone(t *testing.T) {
	errs := []api.Errno{api.OK, api.ErrArg, api.ErrFull, api.ErrName, api.ErrNameTooLong, api.ErrPath, api.ErrPathTooLong, api.ErrNotFound, api.ErrExist,
		api.ErrNotDir, api.ErrIsDir, api.ErrNotEmpty, api.ErrInside, api.ErrStale, api.ErrRoom, api.MaxMark}
	begin := state{base: base(1, 5, 9), entries: []api.Entry{dir(2, 1, "a"), file(3, 1, "f", 1), dir(4, 2, "b")}, seen: make([]api.Seen, 2)}
	met := map[api.Errno]int{}
	for _, op := range []api.Op{
		mkdir(1, "b"), mkdir(1, "a"), mkdir(3, "b"), mkdir(9, "b"), mkdir(1, ""), mkdir(1, "abcdefghijklm"), {Kind: api.OpCreate, Dir: 1, Name: "c", Mode: 512},
		rmdir(1, "a"), rmdir(1, "f"), rmdir(2, "b"), rmdir(1, "c"), rename(1, "a", 4, "c"), rename(1, "f", 4, "c"), chmod(1, "f", 7),
		{Kind: api.OpUnlink, Dir: 1, Name: "a"}, {Kind: api.OpSymlink, Dir: 1, Name: "l", Target: "a"}, {Kind: api.OpSymlink, Dir: 1, Name: "l"},
		// An op that is no mutation is answered with ErrArg.
		{Kind: api.OpLook, Dir: 1, Name: "a"}, {Kind: api.OpList, Dir: 1}, {Kind: api.OpSync}, {Kind: api.OpAgain},
	} {
		tr := begin.tree(t)
		_, _, right := tr.Apply(op)
		met[right]++
		for _, e := range errs {
			d := noted(t, begin.base, node(begin.entries[0]), node(begin.entries[1]), node(begin.entries[2]), done(2, 6, 7, e, op))
			what := fmt.Sprintf("%v with %d", op, e)
			if e != right {
				neither(t, what, d, 2, api.ErrRecord)
				continue
			}
			tells(t, what, d, state{base: base(1, tr.Version(), tr.Next()), entries: tr.Dump(), seen: []api.Seen{{}, {Life: 6, Seq: 7, Err: e}}})
		}
	}
	if len(met) < 10 {
		t.Errorf("the errors met are %v", met)
	}
	// It is asked of the tree as it is then.
	made, again := done(1, 1, 1, api.OK, mkdir(1, "a")), done(1, 1, 2, api.ErrExist, mkdir(1, "a"))
	neither(t, "twice", noted(t, made, made), 2, api.ErrRecord)
	neither(t, "refused first", noted(t, again, made), 2, api.ErrRecord)
	tells(t, "refused then", noted(t, made, again), state{base: base(0, 1, 3), entries: []api.Entry{dir(2, 1, "a")}, seen: []api.Seen{{Life: 1, Seq: 2, Err: api.ErrExist}}})
}

func TestGreatVersionAndNext(t *testing.T) {
	set, refused, made := done(1, 1, 1, api.OK, chmod(1, "a", 7)), done(1, 1, 1, api.ErrNotFound, rmdir(1, "b")), done(1, 1, 1, api.OK, mkdir(1, "b"))
	told := func(what string, version, next int, seen api.Seen, entries []api.Entry, notes ...api.Note) {
		t.Helper()
		tells(t, what, noted(t, notes...), state{base: base(1, version, next), entries: entries, seen: []api.Seen{seen}})
	}
	a, both := []api.Entry{dir(2, 1, "a")}, []api.Entry{dir(2, 1, "a"), dir(api.MaxMark-1, 1, "b")}
	first, fault := api.Seen{Life: 1, Seq: 1}, api.Seen{Life: 1, Seq: 1, Err: api.ErrNotFound}

	told("a version of MaxMark", api.MaxMark, 9, api.Seen{}, a, base(1, api.MaxMark, 9), node(a[0]))
	told("a version of MaxMark, behind it", api.MaxMark, 9, first, a, base(1, api.MaxMark-1, 9), node(a[0]), set)
	told("a refusal at MaxMark", api.MaxMark, 9, fault, a, base(1, api.MaxMark, 9), node(a[0]), refused)
	neither(t, "a version above MaxMark", noted(t, base(1, api.MaxMark, 9), node(a[0]), set), 1, api.ErrRecord)
	neither(t, "a version above MaxMark", noted(t, base(1, api.MaxMark-1, 9), node(a[0]), set, set), 1, api.ErrRecord)

	told("a Next of MaxMark", 3, api.MaxMark, api.Seen{}, a, base(1, 3, api.MaxMark), node(a[0]))
	told("a Next of MaxMark, behind it", 4, api.MaxMark, first, both, base(1, 3, api.MaxMark-1), node(a[0]), made)
	told("no new node at MaxMark", 4, api.MaxMark, first, a, base(1, 3, api.MaxMark), node(a[0]), set)
	told("a refusal at MaxMark", 3, api.MaxMark, fault, a, base(1, 3, api.MaxMark), node(a[0]), refused)
	neither(t, "a Next above MaxMark", noted(t, base(1, 3, api.MaxMark), node(a[0]), made), 1, api.ErrRecord)
	neither(t, "both above MaxMark", noted(t, base(1, api.MaxMark, api.MaxMark), node(a[0]), made), 1, api.ErrRecord)
	// It is asked behind each NoteDone, not at the end alone.
	gone := done(1, 1, 2, api.OK, rmdir(1, "b"))
	neither(t, "a Next above MaxMark, then gone", noted(t, base(1, 3, api.MaxMark), node(a[0]), made, gone), 1, api.ErrRecord)
	told("both MaxMark", api.MaxMark, api.MaxMark, api.Seen{}, nil, base(1, api.MaxMark, api.MaxMark))
}
