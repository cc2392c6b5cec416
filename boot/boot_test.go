package boot_test

import (
	"bytes"
	"fmt"
	"slices"
	"strings"
	"testing"

	"vista/api"
	"vista/block"
	"vista/boot"
	"vista/scroll"
	"vista/tree"
	"vista/wire"
)

// limits are right ones, of so many clients.
func limits(clients int) api.Conf {
	return api.Conf{Clients: clients, Dentries: 9, Negative: 4, Links: 3, Promises: 2, Queue: 4, Hold: 2}
}

// raw is a new disk.
func raw(t *testing.T, blocks int) *block.Disk {
	t.Helper()
	d, e := block.New(blocks)
	if e != api.OK {
		t.Fatalf("a disk of %d blocks: %d", blocks, e)
	}
	return d
}

// formatted is a new disk with an empty journal.
func formatted(t *testing.T, blocks int) *block.Disk {
	t.Helper()
	d := raw(t, blocks)
	if e := boot.Format(d); e != api.OK {
		t.Fatalf("Format: %d", e)
	}
	return d
}

// written is a disk with halves of so many blocks, and a journal of these records.
func written(t *testing.T, half int, records ...[]byte) *block.Disk {
	t.Helper()
	d := formatted(t, 2*half+1)
	j, _, e := scroll.Open(d)
	if e != api.OK {
		t.Fatalf("Open: %d", e)
	}
	for _, record := range records {
		if e := j.Append(record); e != api.OK {
			t.Fatalf("Append of %x: %d", record, e)
		}
	}
	return d
}

// packed are the records of notes.
func packed(t *testing.T, notes ...api.Note) [][]byte {
	t.Helper()
	var records [][]byte
	for _, n := range notes {
		record, e := wire.Pack(n)
		if e != api.OK {
			t.Fatalf("the note %+v is not plain", n)
		}
		records = append(records, record)
	}
	return records
}

// pieces is how many blocks records take.
func pieces(records ...[]byte) int {
	n := 0
	for _, record := range records {
		n += (len(record) + 52) / 53
	}
	return n
}

// noted is a disk whose journal holds these notes, with a block to spare.
func noted(t *testing.T, notes ...api.Note) *block.Disk {
	t.Helper()
	records := packed(t, notes...)
	return written(t, pieces(records...)+1, records...)
}

// journal is what a disk's journal holds.
func journal(t *testing.T, d *block.Disk) [][]byte {
	t.Helper()
	_, records, e := scroll.Open(d)
	if e != api.OK {
		t.Fatalf("Open: %d", e)
	}
	return records
}

// holds fails if a disk's journal does not hold just these records.
func holds(t *testing.T, what string, d *block.Disk, want ...[]byte) {
	t.Helper()
	if got := journal(t, d); !slices.EqualFunc(got, want, bytes.Equal) {
		t.Errorf("%s: the journal holds %x, not %x", what, got, want)
	}
}

// image is all that a disk tells.
func image(d *block.Disk) string {
	var text strings.Builder
	fmt.Fprintln(&text, d.Size(), d.On(), d.Writes())
	for i := range d.Size() {
		b, _ := d.Read(i)
		fmt.Fprintf(&text, "%x\n", b)
	}
	return text.String()
}

func key(dir int, name string) api.Key { return api.Key{Dir: dir, Name: name} }

func dir(id, in int, name string) api.Entry {
	return api.Entry{Key: key(in, name), Node: api.Node{ID: id, Kind: api.KindDir, Mode: 7}}
}

func file(id, in int, name string, mode int) api.Entry {
	return api.Entry{Key: key(in, name), Node: api.Node{ID: id, Kind: api.KindFile, Mode: mode}}
}

func link(id, in int, name, target string) api.Entry {
	return api.Entry{Key: key(in, name), Node: api.Node{ID: id, Kind: api.KindLink, Target: target}}
}

func mkdir(in int, name string) api.Op {
	return api.Op{Kind: api.OpMkdir, Dir: in, Name: name, Mode: 7}
}

func rmdir(in int, name string) api.Op { return api.Op{Kind: api.OpRmdir, Dir: in, Name: name} }

func rename(in int, name string, to int, other string) api.Op {
	return api.Op{Kind: api.OpRename, Dir: in, Name: name, To: to, New: other}
}

func chmod(in int, name string, mode int) api.Op {
	return api.Op{Kind: api.OpSetattr, Dir: in, Name: name, Mode: mode}
}

// target is a link's target of n bytes.
func target(n int) string {
	return strings.Repeat("x/", n/2) + strings.Repeat("x", n%2)
}

func started(epoch int) api.Note { return api.Note{Kind: api.NoteBoot, Epoch: epoch} }

func base(epoch, version, next int) api.Note {
	return api.Note{Kind: api.NoteBase, Epoch: epoch, Version: version, Next: next}
}

func node(entry api.Entry) api.Note { return api.Note{Kind: api.NoteNode, Entry: entry} }

func seen(client, life, seq int, e api.Errno) api.Note {
	return api.Note{Kind: api.NoteSeen, Client: client, Seen: api.Seen{Life: life, Seq: seq, Err: e}}
}

func done(client, life, seq int, e api.Errno, op api.Op) api.Note {
	return api.Note{Kind: api.NoteDone, Client: client, Seen: api.Seen{Life: life, Seq: seq, Err: e}, Op: op}
}

// state is what a journal says.
type state struct {
	base    api.Note
	entries []api.Entry
	seen    []api.Seen
}

// begin is what a journal without notes says.
func begin(clients int) state {
	return state{base: base(0, 0, 2), seen: make([]api.Seen, clients)}
}

func (s state) same(other state) bool {
	return s.base == other.base && slices.Equal(s.entries, other.entries) && slices.Equal(s.seen, other.seen)
}

// tree is the one that a state says.
func (s state) tree(t *testing.T) *tree.Tree {
	t.Helper()
	tr, e := tree.Load(s.entries, s.base.Version, s.base.Next)
	if e != api.OK {
		t.Fatalf("Load of %v: %d", s, e)
	}
	return tr
}

// tells fails if Read does not tell this, or changes the disk.
func tells(t *testing.T, what string, d *block.Disk, want state) {
	t.Helper()
	before := image(d)
	got := state{}
	var e api.Errno
	got.base, got.entries, got.seen, e = boot.Read(d, len(want.seen))
	if e != api.OK || !got.same(want) {
		t.Errorf("%s: Read: %+v, %d, not %+v", what, got, e, want)
	}
	if image(d) != before {
		t.Errorf("%s: Read has changed the disk", what)
	}
}

// refuses fails if Read does not answer this error alone, or changes the disk.
func refuses(t *testing.T, what string, d *block.Disk, clients int, want api.Errno) {
	t.Helper()
	before := image(d)
	n, entries, seen, e := boot.Read(d, clients)
	if e != want || n != (api.Note{}) || len(entries) > 0 || len(seen) > 0 {
		t.Errorf("%s: Read: %+v, %v, %v, %d, not %d", what, n, entries, seen, e, want)
	}
	if image(d) != before {
		t.Errorf("%s: Read has changed the disk", what)
	}
}

// neither fails if Read, and Start with the same clients, do not answer this error alone.
func neither(t *testing.T, what string, d *block.Disk, clients int, want api.Errno) {
	t.Helper()
	refuses(t, what, d, clients, want)
	starts(t, what, d, limits(clients), want)
}

// starts fails if Start does not answer this error alone, or changes the disk.
func starts(t *testing.T, what string, d *block.Disk, conf api.Conf, want api.Errno) {
	t.Helper()
	before := image(d)
	if s, e := boot.Start(d, conf); s != nil || e != want {
		t.Errorf("%s: Start: %v, %d, not %d", what, s, e, want)
	}
	if image(d) != before {
		t.Errorf("%s: Start has changed the disk", what)
	}
}

func TestExamples(t *testing.T) {
	d := formatted(t, 9)
	tells(t, "formatted", d, state{base: api.Note{Kind: api.NoteBase, Next: 2}, seen: make([]api.Seen, 2)})
	for epoch := 1; epoch <= 2; epoch++ {
		s, e := boot.Start(d, limits(2))
		if s == nil || e != api.OK || s.Epoch() != epoch {
			t.Fatalf("Start: %v, %d", s, e)
		}
		if epoch == 1 {
			holds(t, "started", d, []byte{1, 1})
		}
	}
	holds(t, "started twice", d, []byte{1, 1}, []byte{1, 2})
	d.Fuse(0)
	if s, e := boot.Start(d, limits(2)); s != nil || e != api.ErrPower {
		t.Errorf("Fuse(0), Start: %v, %d", s, e)
	}
	neither(t, "03 ..", written(t, 4, []byte{3, 1, 1, 'a', 0, 2, 1, 7, 0}), 2, api.ErrRecord)
	neither(t, "03 ..", written(t, 4, []byte{3}), 2, api.ErrRecord)
}

// P10.1

// sameFormat fails if Format does not do what scroll.Format does.
func sameFormat(t *testing.T, what string, d *block.Disk, want api.Errno) {
	t.Helper()
	other, before := d.Copy(), image(d)
	got := boot.Format(d)
	if e := scroll.Format(other); got != e || got != want || image(d) != image(other) {
		t.Errorf("%s: Format: %d, not %d; or another disk", what, got, want)
	}
	switch after := image(d); {
	case got == api.OK:
		for clients := 1; clients <= api.MaxClients; clients++ {
			tells(t, what, d, begin(clients))
		}
		holds(t, what, d)
	case got != api.ErrPower && after != before:
		t.Errorf("%s: a refused Format has changed the disk", what)
	}
}

func TestFormat(t *testing.T) {
	for blocks := 1; blocks <= 9; blocks++ {
		want := api.OK
		if blocks < 3 {
			want = api.ErrArg
		}
		d := raw(t, blocks)
		sameFormat(t, "new", d, want)
		sameFormat(t, "once more", d, want)
		d = raw(t, blocks)
		for i := range blocks {
			d.Write(i, bytes.Repeat([]byte{7}, api.BlockSize))
		}
		sameFormat(t, "no journal", d, want)
	}
	sameFormat(t, "great", raw(t, api.MaxBlocks), api.OK)
}

func TestFormatOfAJournal(t *testing.T) {
	notes := []api.Note{base(7, 5, 9), node(dir(2, 1, "a")), seen(1, 3, 4, api.ErrExist), started(8)}
	d := noted(t, notes...)
	sameFormat(t, "a journal", d, api.OK)
	// It is forgotten: a start begins with the first epoch.
	s, e := boot.Start(d, limits(2))
	if e != api.OK || s.Epoch() != 1 || s.Version() != 0 || s.Seen(1) != (api.Seen{}) {
		t.Errorf("Start: %v, %d", s, e)
	}
	sameFormat(t, "a journal that was started", d, api.OK)

	d = noted(t, notes...)
	d.Fuse(0)
	sameFormat(t, "without power", d, api.ErrPower)
	d.Power()
	tells(t, "not formatted", d, state{base: base(8, 5, 9), entries: []api.Entry{dir(2, 1, "a")}, seen: []api.Seen{{Life: 3, Seq: 4, Err: api.ErrExist}}})

	d = raw(t, 9)
	d.Write(0, lastHeader())
	sameFormat(t, "the last generation", d, api.ErrScroll)
	d = raw(t, 2)
	d.Cut()
	sameFormat(t, "too small, without power", d, api.ErrArg)
}

// lastHeader is that of a journal behind which no generation comes, in half 0.
func lastHeader() []byte {
	b := make([]byte, api.BlockSize)
	copy(b, "SCR1\x00\x00\x00\x40")
	return b
}
