package scroll_test

import (
	"bytes"
	"slices"
	"testing"

	"vista/api"
	"vista/scroll"
)

// P7.6

func TestRecordsAreToldInOrder(t *testing.T) {
	for from := range 40 {
		d, s := formatted(t, 129)
		var told [][]byte
		for i := 0; ; i++ {
			r := record(1+(from*31+i*i*7)%api.MaxRecord, from+i)
			if scroll.Blocks(r) > s.Room() {
				wants(t, "Append", s.Append(r), api.ErrFull)
				break
			}
			wants(t, "Append", s.Append(r), api.OK)
			told = append(told, r)
			opened(t, "in order", d, told...)
		}
		if from%2 == 0 {
			wants(t, "Turn", s.Turn(told), api.OK)
			opened(t, "turned", d, told...)
		}
	}
}

func TestRecordsOfAnyBytes(t *testing.T) {
	// Records that look like a header, like pieces, like nothing.
	l := [][]byte{filled(), header(1, 0), pieces(1, 1, record(106, 1))[1], bytes.Repeat([]byte{0xff}, api.MaxRecord), {0}, make([]byte, api.MaxRecord)}
	d, s := formatted(t, 61)
	for i, r := range l {
		wants(t, "Append", s.Append(r), api.OK)
		opened(t, "any bytes", d, l[:i+1]...)
	}
	wants(t, "Turn", s.Turn(l), api.OK)
	opened(t, "any bytes", d, l...)
}

func TestScrollsHaveNothingInCommon(t *testing.T) {
	d1, s1 := formatted(t, 9)
	d2, s2 := formatted(t, 9)
	s1.Append([]byte{1})
	holds(t, "the other one", d2, unlike(slices.Repeat([][]byte{filled()}, 9), 0, header(1, 0)))
	state(t, "the other one", s2, 1, 4, 4)
	s1.Turn([][]byte{{2}, {3}})
	d1.Cut()
	state(t, "the other one", s2, 1, 4, 4)
	wants(t, "Append", s2.Append(record(54, 4)), api.OK)
	opened(t, "the other one", d2, record(54, 4))
	opened(t, "the first one", d1, []byte{2}, []byte{3})
	state(t, "the first one", s1, 2, 4, 2)

	// A copy of a disk is another disk.
	d3 := d2.Copy()
	s3 := opened(t, "a copy", d3, record(54, 4))
	wants(t, "Append", s3.Append([]byte{5}), api.OK)
	opened(t, "the copy", d3, record(54, 4), []byte{5})
	opened(t, "what was copied", d2, record(54, 4))
	state(t, "what was copied", s2, 1, 4, 2)
}

func TestOpenTurnsNothing(t *testing.T) {
	d, s := formatted(t, 9)
	s.Append(record(54, 1))
	d.Fuse(1)
	s.Append(record(54, 2))
	d.Power()
	before, writes := image(d), d.Writes()
	for range 3 {
		other := opened(t, "again and again", d, record(54, 1))
		state(t, "again and again", other, 1, 4, 2)
	}
	holds(t, "opened", d, before)
	if d.Writes() != writes {
		t.Errorf("%d writes", d.Writes()-writes)
	}
	// The scroll that was there goes on as if nobody had opened another.
	wants(t, "Append", s.Append([]byte{3}), api.OK)
	state(t, "the first scroll", s, 1, 4, 1)
	opened(t, "the first scroll", d, record(54, 1), []byte{3})
}

// R3

func TestRecordsAreNeitherChangedNorKept(t *testing.T) {
	for size := range api.MaxRecord + 2 {
		d, s := formatted(t, 33)
		for range 2 {
			room := record(size+200, size)
			want := bytes.Clone(room)
			r := room[:size]
			list := [][]byte{r, {0xee}}
			s.Append(r)
			s.Turn(list[:1])
			d.Fuse(1)
			s.Append(r)
			s.Turn(list[:1])
			d.Power()
			if !bytes.Equal(room, want) || !bytes.Equal(list[0], want[:size]) || !bytes.Equal(list[1], []byte{0xee}) {
				t.Fatalf("a record of %d bytes was changed", size)
			}
			before := image(d)
			_, told, _ := scroll.Open(d)
			clear(room)
			list[0] = []byte{1}
			holds(t, "kept", d, before)
			opened(t, "kept", d, told...)
		}
	}
}

func TestToldRecordsAreNewMemory(t *testing.T) {
	d, s := formatted(t, 41)
	l := [][]byte{record(1, 1), record(53, 2), record(54, 3), record(api.MaxRecord, 4), record(20, 5)}
	for _, r := range l {
		s.Append(r)
	}
	before := image(d)
	_, first, _ := scroll.Open(d)
	_, second, _ := scroll.Open(d)
	for i := range first {
		// With all their spare room, one by one: no other record may turn.
		all := first[i][:cap(first[i])]
		for j := range all {
			all[j] = 0xee
		}
		if !same(first[i+1:], l[i+1:]) || !same(second, l) {
			t.Fatalf("record %d has memory in common with another", i)
		}
	}
	for i := range first[:cap(first)] {
		first[:cap(first)][i] = nil
	}
	if !same(second, l) {
		t.Error("two lists have memory in common")
	}
	holds(t, "the disk", d, before)
	state(t, "the scroll", opened(t, "the scroll", d, l...), 1, 20, 20-13)
	// Nor does what comes later turn what was told.
	s.Turn([][]byte{{9}})
	s.Turn([][]byte{{8}})
	if !same(second, l) {
		t.Error("a later Turn has turned what was told")
	}
}
