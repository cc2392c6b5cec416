package scroll_test

import (
	"encoding/binary"
	"math"
	"slices"
	"testing"

	"vista/api"
	"vista/scroll"
)

// P7.3

func TestBlocks(t *testing.T) {
	if n := scroll.Blocks(nil); n != 0 {
		t.Errorf("Blocks(nil) = %d", n)
	}
	for size := range 3 * api.MaxRecord {
		want := 0
		for left := size; left > 0; left -= 53 {
			want++
		}
		if n := scroll.Blocks(make([]byte, size)); n != want {
			t.Errorf("Blocks of %d bytes = %d, not %d", size, n, want)
		}
	}
}

func TestHalf(t *testing.T) {
	for n := 3; n <= api.MaxBlocks; n++ {
		_, s := formatted(t, n)
		half := 0
		for 1+2*(half+1) <= n {
			half++
		}
		state(t, "formatted", s, 1, half, half)
	}
}

// edges are the sizes of records at which something turns.
var edges = []int{1, 2, 52, 53, 54, 105, 106, 107, 371, 372, api.MaxRecord - 1, api.MaxRecord}

func TestAppend(t *testing.T) {
	for half := range 2 {
		d := disk(t, 140)
		lay(t, d, 0, header(0x01020304, byte(half)))
		s := opened(t, "empty", d)
		want := image(d)
		var told [][]byte
		used := 0
		for i, size := range edges {
			told = append(told, record(size, i))
			writes := d.Writes()
			wants(t, "Append", s.Append(told[i]), api.OK)
			blocks := pieces(0x01020304, i, told[i])
			want = unlike(want, 1+69*half+used, blocks...)
			used += len(blocks)
			holds(t, "appended", d, want)
			if d.Writes() != writes+len(blocks) {
				t.Errorf("%d bytes: %d writes", size, d.Writes()-writes)
			}
			state(t, "appended", s, 0x01020304, 69, 69-used)
			state(t, "opened", opened(t, "appended", d, told...), 0x01020304, 69, 69-used)
		}
	}
}

func TestAppendToOpenedScroll(t *testing.T) {
	d := disk(t, 21)
	lay(t, d, 0, header(6, 1))
	var told [][]byte
	for i, size := range []int{60, 1, 107, 53} {
		// What is appended stands behind what was read.
		s := opened(t, "opened", d, told...)
		told = append(told, record(size, i))
		wants(t, "Append", s.Append(told[i]), api.OK)
	}
	var blocks [][]byte
	for i, r := range told {
		blocks = append(blocks, pieces(6, i, r)...)
	}
	holds(t, "appended", d, unlike(unlike(slices.Repeat([][]byte{filled()}, 21), 0, header(6, 1)), 11, blocks...))
}

func TestAppendManyRecords(t *testing.T) {
	d, s := formatted(t, api.MaxBlocks)
	var told [][]byte
	for i := range 511 {
		told = append(told, record(1+i%53, i))
		wants(t, "Append", s.Append(told[i]), api.OK)
		state(t, "many records", s, 1, 511, 510-i)
	}
	wants(t, "Append to a full half", s.Append([]byte{1}), api.ErrFull)
	opened(t, "many records", d, told...)
	b, _ := d.Read(511)
	if n := binary.LittleEndian.Uint32(b[4:]); n != 510 {
		t.Errorf("the last record's number: %d", n)
	}
}

func TestAppendRefusesRecords(t *testing.T) {
	d, s := formatted(t, 3)
	for range 2 {
		before := image(d)
		for _, r := range [][]byte{nil, {}, record(api.MaxRecord+1, 1), record(2*api.MaxRecord, 1), make([]byte, 1<<16), make([]byte, 256), make([]byte, 54)} {
			want := api.ErrRecord
			if len(r) > 0 && len(r) <= api.MaxRecord {
				want = api.ErrFull
			}
			wants(t, "Append", s.Append(r), want)
			d.Cut()
			wants(t, "Append without power", s.Append(r), want)
			d.Power()
			d.Fuse(0)
			wants(t, "Append with a fuse", s.Append(r), want)
			if !d.On() {
				t.Error("a refused Append has written")
			}
			d.Power()
		}
		holds(t, "refused", d, before)
		// Once more, with a half that is full.
		s.Append([]byte{1})
	}
	opened(t, "refused", d, []byte{1})
}

func TestAppendOfJustRoom(t *testing.T) {
	for _, n := range []int{17, 18} {
		for first := 1; first <= 7; first++ {
			for second := 1; second <= 8; second++ {
				d, s := formatted(t, n)
				one, two := record(53*first, 1), record(53*second-52, 2)
				wants(t, "Append", s.Append(one), api.OK)
				if second > 8-first {
					wants(t, "Append of more than Room", s.Append(two), api.ErrFull)
					state(t, "refused", s, 1, 8, 8-first)
					opened(t, "refused", d, one)
					// What fits is still taken, up to the last block.
					wants(t, "Append of just Room", s.Append(record(53*(8-first), 3)), api.OK)
					opened(t, "full", d, one, record(53*(8-first), 3))
					state(t, "full", s, 1, 8, 0)
					continue
				}
				wants(t, "Append within Room", s.Append(two), api.OK)
				state(t, "appended", s, 1, 8, 8-first-second)
				opened(t, "appended", d, one, two)
				b, _ := d.Read(9)
				if !slices.Equal(b, filled()) {
					t.Errorf("the other half: %v", b)
				}
			}
		}
	}
}

func TestAppendWithoutPower(t *testing.T) {
	for writes := range 3 {
		d, s := formatted(t, 17)
		s.Append([]byte{1})
		want := image(d)
		d.Fuse(writes)
		r := record(107, 2)
		wants(t, "Append", s.Append(r), api.ErrPower)
		// The first pieces come first.
		want = unlike(want, 2, pieces(1, 1, r)[:writes]...)
		holds(t, "broken off", d, want)
		state(t, "broken off", s, 1, 8, 7)
		wants(t, "Append without power", s.Append(r), api.ErrPower)
		holds(t, "without power", d, want)
		d.Power()
		other := record(60, 3)
		wants(t, "the next Append", s.Append(other), api.OK)
		holds(t, "the next Append", d, unlike(want, 2, pieces(1, 1, other)...))
		state(t, "the next Append", s, 1, 8, 5)
		opened(t, "the next Append", d, []byte{1}, other)
	}
}

// P7.4

// listed are lists of records that fit into a half of 8 blocks.
func listed() [][][]byte {
	eight := make([][]byte, 8)
	for i := range eight {
		eight[i] = record(53-i, i)
	}
	return [][][]byte{
		nil, {}, {{1}}, {{1}, {2}}, {record(53, 1)}, {record(54, 1), {2}}, {{1}, record(107, 2), record(106, 3)},
		{record(api.MaxRecord, 1)}, {record(api.MaxRecord-52, 1)}, {record(371, 1), record(53, 2)}, eight, {{1}, record(371, 2)},
	}
}

func TestTurn(t *testing.T) {
	for half := range 2 {
		for _, n := range []int{17, 18} {
			for _, l := range listed() {
				d := disk(t, n)
				lay(t, d, 0, header(9, byte(half)))
				s := opened(t, "empty", d)
				wants(t, "Append", s.Append(record(60, 1)), api.OK)
				want, writes := image(d), d.Writes()
				var blocks [][]byte
				for i, r := range l {
					blocks = append(blocks, pieces(10, i, r)...)
				}
				want = unlike(want, 1+8*(1-half), blocks...)
				want[0] = header(10, byte(1-half))
				wants(t, "Turn", s.Turn(l), api.OK)
				holds(t, "turned", d, want)
				if d.Writes() != writes+len(blocks)+1 {
					t.Errorf("Turn of %d pieces: %d writes", len(blocks), d.Writes()-writes)
				}
				state(t, "turned", s, 10, 8, 8-len(blocks))
				state(t, "opened", opened(t, "turned", d, l...), 10, 8, 8-len(blocks))
			}
		}
	}
}

func TestTurnAndAppend(t *testing.T) {
	d, s := formatted(t, 17)
	for i := range 300 {
		one, two, three := record(54, i), record(1, i+1), record(100, i+2)
		wants(t, "Turn", s.Turn([][]byte{one, two}), api.OK)
		state(t, "turned", s, i+2, 8, 5)
		wants(t, "Append", s.Append(three), api.OK)
		state(t, "appended", s, i+2, 8, 3)
		opened(t, "appended", d, one, two, three)
		blocks := slices.Concat(pieces(i+2, 0, one), pieces(i+2, 1, two), pieces(i+2, 2, three))
		got := image(d)
		holds(t, "appended", d, unlike(unlike(got, 0, header(uint32(i+2), byte(i+1)%2)), 1+8*((i+1)%2), blocks...))
	}
}

func TestTurnRefuses(t *testing.T) {
	for half := range 2 {
		d := disk(t, 17)
		lay(t, d, 0, header(last, byte(half)))
		s := opened(t, "the last generation", d)
		wants(t, "Append", s.Append(record(60, 1)), api.OK)
		before := image(d)
		nine := slices.Repeat([][]byte{{1}}, 9)
		for _, x := range []struct {
			want    api.Errno
			records [][]byte
		}{
			{api.ErrRecord, [][]byte{nil}},
			{api.ErrRecord, [][]byte{{}}},
			{api.ErrRecord, [][]byte{{1}, {}, {2}}},
			{api.ErrRecord, [][]byte{{1}, {2}, record(api.MaxRecord+1, 1)}},
			{api.ErrRecord, [][]byte{record(api.MaxRecord+1, 1)}},
			{api.ErrRecord, append(slices.Clone(nine), nil)},
			{api.ErrRecord, [][]byte{record(api.MaxRecord, 1), {1}, make([]byte, 1<<16)}},
			{api.ErrFull, nine},
			{api.ErrFull, slices.Repeat(nine, 1000)},
			{api.ErrFull, [][]byte{record(api.MaxRecord, 1), {1}}},
			{api.ErrFull, [][]byte{record(api.MaxRecord-52, 1), {1}}},
			{api.ErrFull, [][]byte{record(54, 1), record(54, 1), record(54, 1), record(107, 1)}},
			{api.ErrScroll, nil},
			{api.ErrScroll, [][]byte{{1}}},
			{api.ErrScroll, [][]byte{record(api.MaxRecord, 1)}},
		} {
			for _, prepare := range []func(){d.Power, d.Cut, func() { d.Power(); d.Fuse(0) }} {
				prepare()
				wants(t, "Turn", s.Turn(x.records), x.want)
			}
			if !d.On() {
				t.Error("a refused Turn has written")
			}
			holds(t, "refused", d, before)
			state(t, "refused", s, last, 8, 6)
		}
		d.Power()
		wants(t, "Append", s.Append([]byte{3}), api.OK)
		opened(t, "refused", d, record(60, 1), []byte{3})
	}
}

func TestTurnOfOnePieceMoreThanAHalf(t *testing.T) {
	for _, n := range []int{3, 4, 5, 6, 7, 8} {
		half := (n - 1) / 2
		d, s := formatted(t, n)
		before := image(d)
		wants(t, "Turn", s.Turn(slices.Repeat([][]byte{{1}}, half+1)), api.ErrFull)
		wants(t, "Turn", s.Turn([][]byte{record(53*half+1, 1)}), api.ErrFull)
		holds(t, "refused", d, before)
		for range 2 {
			full := slices.Repeat([][]byte{{1}}, half)
			wants(t, "Turn", s.Turn(full), api.OK)
			opened(t, "full", d, full...)
			wants(t, "Append", s.Append([]byte{1}), api.ErrFull)
		}
		state(t, "full", s, 3, half, 0)
	}
}

func TestTurnGenerationIsAboveTheNextHalf(t *testing.T) {
	// The disk has 8 blocks: half 0 is 1 to 3, half 1 is 4 to 6, block 7 is of neither.
	for half := range 2 {
		for at := 1; at < 8; at++ {
			for _, there := range []uint32{1, 5, 6, 300, 1 << 20, last - 1, last, last + 1, 1 << 31, math.MaxUint32} {
				d := disk(t, 8)
				lay(t, d, 0, header(5, byte(half)))
				lay(t, d, at, piece(int(there), 0, 0, 1, []byte{0xee}))
				s, told, _ := scroll.Open(d)
				before, room := image(d), s.Room()
				want := uint32(6)
				if (at-1)/3 == 1-half {
					want = max(want, there+1)
					if there >= last {
						wants(t, "Turn behind the last generation", s.Turn([][]byte{{1}}), api.ErrScroll)
						holds(t, "refused", d, before)
						state(t, "refused", s, 5, 3, room)
						opened(t, "refused", d, told...)
						continue
					}
				}
				wants(t, "Turn", s.Turn([][]byte{{1}}), api.OK)
				state(t, "turned", s, int(want), 3, 2)
				opened(t, "turned", d, []byte{1})
				after := unlike(before, 1+3*(1-half), piece(int(want), 0, 0, 1, []byte{1}))
				holds(t, "turned", d, unlike(after, 0, header(want, byte(1-half))))
			}
		}
	}
}

func TestTurnToTheLastGeneration(t *testing.T) {
	d := disk(t, 7)
	lay(t, d, 0, header(last-1, 1))
	s := opened(t, "the last but one", d)
	wants(t, "Turn", s.Turn([][]byte{{1}}), api.OK)
	state(t, "the last", s, last, 3, 2)
	wants(t, "Append", s.Append([]byte{2}), api.OK)
	wants(t, "Turn", s.Turn([][]byte{{3}}), api.ErrScroll)
	wants(t, "Format", scroll.Format(d), api.ErrScroll)
	opened(t, "the last", d, []byte{1}, []byte{2})
}

func TestTurnBrokenOff(t *testing.T) {
	l := [][]byte{record(60, 1), record(107, 2)}
	blocks := slices.Concat(pieces(2, 0, l[0]), pieces(2, 1, l[1]))
	for writes := range len(blocks) + 1 {
		d, s := formatted(t, 17)
		s.Append([]byte{1})
		want := image(d)
		d.Fuse(writes)
		wants(t, "Turn", s.Turn(l), api.ErrPower)
		want = unlike(want, 9, blocks[:writes]...)
		holds(t, "broken off", d, want)
		state(t, "broken off", s, 1, 8, 7)
		wants(t, "Turn without power", s.Turn(l), api.ErrPower)
		d.Power()
		// The scroll is what it was, and goes on where it was.
		wants(t, "Append", s.Append([]byte{2}), api.OK)
		opened(t, "broken off", d, []byte{1}, []byte{2})
		// What was left there is of no generation that comes.
		next := 2
		if writes > 0 {
			next = 3
		}
		wants(t, "the next Turn", s.Turn([][]byte{{3}}), api.OK)
		state(t, "the next Turn", s, next, 8, 7)
		opened(t, "the next Turn", d, []byte{3})
	}
}

// The next half and the next generation are the disk's, whatever a scroll remembers: so of two scrolls over one disk the later Turn holds.
func TestTurnAsksTheDisk(t *testing.T) {
	d, first := formatted(t, 17)
	second := opened(t, "second", d)
	wants(t, "Turn of the first", first.Turn([][]byte{{1}}), api.OK)
	wants(t, "Turn of the second", second.Turn([][]byte{{2}, {3}}), api.OK)
	state(t, "second", second, 3, 8, 6)
	opened(t, "second", d, []byte{2}, []byte{3})
	wants(t, "Format", scroll.Format(d), api.OK)
	wants(t, "Turn behind a Format", second.Turn([][]byte{{4}}), api.OK)
	state(t, "behind a Format", second, 5, 8, 7)
	opened(t, "behind a Format", d, []byte{4})
	// A header that is gone comes again, with half 0.
	lay(t, d, 0, filled())
	lay(t, d, 3, piece(40, 0, 0, 1, []byte{1}))
	wants(t, "Turn without a header", second.Turn([][]byte{{5}}), api.OK)
	state(t, "without a header", second, 41, 8, 7)
	b, _ := d.Read(0)
	if !slices.Equal(b, header(41, 0)) {
		t.Errorf("without a header: %v", b)
	}
}
