package boot_test

import (
	"slices"
	"testing"

	"vista/api"
	"vista/boot"
)

// R3, R4

// spoil writes over a list, its spare room too.
func spoil[T any](items []T, with T) {
	all := items[:cap(items)]
	for i := range all {
		all[i] = with
	}
}

func TestAnswersAreNewMemory(t *testing.T) {
	notes, want := everyNote()
	for _, half := range []int{0, 1} {
		records := packed(t, notes...)
		d := written(t, pieces(records...)+half, records...)
		n, entries, seen, _ := boot.Read(d, 3)
		_, others, lasts, _ := boot.Read(d, 3)
		spoil(entries, dir(-77, -77, "spoilt"))
		if !slices.Equal(seen, want.seen) {
			t.Errorf("seen is %v", seen)
		}
		spoil(seen, api.Seen{Life: -77})
		if !slices.Equal(others, want.entries) || !slices.Equal(lasts, want.seen) || n != want.base {
			t.Errorf("what was read beside is %v, %v", others, lasts)
		}
		tells(t, "read again", d, want)
		// Nor does a start keep it; nor does what comes later turn what was told.
		s, e := boot.Start(d, limits(3))
		if e != api.OK {
			t.Fatalf("Start: %d", e)
		}
		spoil(others, dir(-77, -77, "spoilt"))
		spoil(lasts, api.Seen{Life: -77})
		fresh(t, "started", s, limits(3), want.next())
		_, others, lasts, _ = boot.Read(d, 3)
		if out, e := s.Handle(api.Msg{Kind: api.MsgAsk, Client: 1, Life: 9, Seq: 1, Mark: 78, Op: chmod(1, "a", 0)}); e != api.OK || len(out) != 1 || out[0].Err != api.OK {
			t.Errorf("a mutation: %v, %d", out, e)
		}
		if !slices.Equal(others, want.entries) || !slices.Equal(lasts, want.seen) {
			t.Errorf("what was read ahead of a mutation is %v, %v", others, lasts)
		}
	}
}

func TestNewMemoryOfAnEmptyJournal(t *testing.T) {
	d := formatted(t, 9)
	_, entries, seen, _ := boot.Read(d, 4)
	spoil(entries, dir(-77, -77, "spoilt"))
	spoil(seen, api.Seen{Life: -77})
	tells(t, "read again", d, begin(4))
	begins(t, "started", d, limits(4), begin(4), []byte{1, 1})
}

// A copy of a disk is another one; so are two servers.
func TestNothingInCommon(t *testing.T) {
	notes, want := everyNote()
	d := noted(t, notes...)
	other := d.Copy()
	before := image(other)
	s, _ := boot.Start(d, limits(3))
	s.Handle(api.Msg{Kind: api.MsgAsk, Client: 1, Life: 9, Seq: 1, Mark: 78, Op: chmod(1, "a", 0)})
	if image(other) != before {
		t.Error("the other disk has changed")
	}
	two := begins(t, "the other disk", other, limits(3), want, append(packed(t, notes...), []byte{1, 78})...)
	d.Cut()
	if out, e := two.Handle(api.Msg{Kind: api.MsgAsk, Client: 2, Life: 9, Seq: 1, Mark: 78, Op: mkdir(1, "b")}); e != api.OK || len(out) != 1 || out[0].Err != api.OK {
		t.Errorf("a mutation: %v, %d", out, e)
	}
	if s.Version() != 11 || s.Seen(2) != want.seen[1] || two.Version() != 11 || two.Seen(1) != want.seen[0] {
		t.Error("the two servers have something in common")
	}
}

// The same disk is read, and started, the same.
func TestTheSameAgain(t *testing.T) {
	notes, want := everyNote()
	for half := pieces(packed(t, notes...)...); half < 30; half++ {
		one, other := written(t, half, packed(t, notes...)...), written(t, half, packed(t, notes...)...)
		for range 5 {
			tells(t, "one", one, want)
			tells(t, "other", other, want)
			s, e := boot.Start(one, limits(3))
			two, f := boot.Start(other, limits(3))
			if e != f || s.Epoch() != two.Epoch() || image(one) != image(other) {
				t.Errorf("%d, %d, or two unlike disks", e, f)
			}
			want = want.next()
		}
		_, want = everyNote()
	}
}
