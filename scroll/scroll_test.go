package scroll_test

import (
	"bytes"
	"encoding/binary"
	"math"
	"slices"
	"testing"

	"vista/api"
	"vista/block"
	"vista/scroll"
)

// last is the last generation.
const last = 1 << 30

// sizes are disks' sizes: the smallest ones, odd and even ones, the greatest one.
var sizes = []int{3, 4, 5, 6, 7, 8, 19, 20, 64, api.MaxBlocks - 1, api.MaxBlocks}

// disk is a new disk.
func disk(t *testing.T, n int) *block.Disk {
	t.Helper()
	d, e := block.New(n)
	if e != api.OK {
		t.Fatalf("New(%d): %d", n, e)
	}
	return d
}

// filled is a block that begins with these bytes.
func filled(start ...byte) []byte {
	return append(start, make([]byte, api.BlockSize-len(start))...)
}

// header is block 0 as the chapter tells it.
func header(generation uint32, half byte) []byte {
	b := binary.LittleEndian.AppendUint32([]byte{0x53, 0x43, 0x52, 0x31}, generation)
	return filled(append(b, half)...)
}

// piece is a block of a half as the chapter tells it.
func piece(generation, record int, number, count byte, held []byte) []byte {
	b := binary.LittleEndian.AppendUint32(nil, uint32(generation))
	b = binary.LittleEndian.AppendUint32(b, uint32(record))
	b = append(b, number, count, byte(len(held)))
	return filled(append(b, held...)...)
}

// pieces are all blocks of a record.
func pieces(generation, number int, record []byte) [][]byte {
	var blocks [][]byte
	parts := slices.Collect(slices.Chunk(record, 53))
	for i, part := range parts {
		blocks = append(blocks, piece(generation, number, byte(i), byte(len(parts)), part))
	}
	return blocks
}

// record is a record of so many bytes; from makes it unlike others.
func record(size, from int) []byte {
	b := make([]byte, size)
	for i := range b {
		b[i] = byte(from + 7*i + i/53)
	}
	return b
}

// lay writes blocks onto a disk, one behind the other.
func lay(t *testing.T, d *block.Disk, at int, blocks ...[]byte) {
	t.Helper()
	for i, b := range blocks {
		wants(t, "a raw write", d.Write(at+i, b), api.OK)
	}
}

// formatted is a new disk with an empty scroll, and that scroll.
func formatted(t *testing.T, n int) (*block.Disk, *scroll.Scroll) {
	t.Helper()
	d := disk(t, n)
	wants(t, "Format", scroll.Format(d), api.OK)
	return d, opened(t, "formatted", d)
}

// opened is the scroll of a disk, which must tell just these records.
func opened(t *testing.T, what string, d *block.Disk, want ...[]byte) *scroll.Scroll {
	t.Helper()
	s, records, e := scroll.Open(d)
	if s == nil || e != api.OK {
		t.Fatalf("%s: Open: %v, %d", what, s, e)
	}
	if !same(records, want) {
		t.Fatalf("%s: Open: %v, not %v", what, records, want)
	}
	return s
}

// same tells whether two lists hold the same bytes.
func same(a, b [][]byte) bool {
	return slices.EqualFunc(a, b, bytes.Equal)
}

// image is all that a disk's blocks hold.
func image(d *block.Disk) [][]byte {
	all := make([][]byte, d.Size())
	for i := range all {
		all[i], _ = d.Read(i)
	}
	return all
}

// unlike is a disk's image with other blocks from one on.
func unlike(all [][]byte, at int, blocks ...[]byte) [][]byte {
	all = slices.Clone(all)
	copy(all[at:], blocks)
	return all
}

// holds fails if a disk's blocks are others than these.
func holds(t *testing.T, what string, d *block.Disk, want [][]byte) {
	t.Helper()
	got := image(d)
	if len(got) != len(want) {
		t.Fatalf("%s: %d blocks, not %d", what, len(got), len(want))
	}
	for i := range got {
		if !bytes.Equal(got[i], want[i]) {
			t.Errorf("%s: block %d: %v, not %v", what, i, got[i], want[i])
		}
	}
}

// wants fails if an error's number is another one.
func wants(t *testing.T, what string, got, want api.Errno) {
	t.Helper()
	if got != want {
		t.Errorf("%s: %d, not %d", what, got, want)
	}
}

// state fails if what a scroll tells of itself is another thing.
func state(t *testing.T, what string, s *scroll.Scroll, generation, half, room int) {
	t.Helper()
	if s.Generation() != generation || s.Half() != half || s.Room() != room {
		t.Errorf("%s: Generation %d, Half %d, Room %d, not %d, %d, %d", what, s.Generation(), s.Half(), s.Room(), generation, half, room)
	}
}

func TestExampleOfTheChapter(t *testing.T) {
	d := disk(t, 7)
	if s, records, e := scroll.Open(d); s != nil || records != nil || e != api.ErrScroll {
		t.Errorf("Open of a new disk: %v, %v, %d", s, records, e)
	}
	wants(t, "Format", scroll.Format(d), api.OK)
	want := slices.Repeat([][]byte{filled()}, 7)
	want[0] = filled(0x53, 0x43, 0x52, 0x31, 1, 0, 0, 0, 0)
	holds(t, "formatted", d, want)
	s := opened(t, "formatted", d)
	state(t, "formatted", s, 1, 3, 3)

	wants(t, "Append of 2 bytes", s.Append([]byte{7, 8}), api.OK)
	want[1] = filled(1, 0, 0, 0, 0, 0, 0, 0, 0, 1, 2, 7, 8)
	holds(t, "2 bytes", d, want)
	state(t, "2 bytes", s, 1, 3, 2)

	long := record(54, 1)
	wants(t, "Append of 54 bytes", s.Append(long), api.OK)
	want[2] = filled(append([]byte{1, 0, 0, 0, 1, 0, 0, 0, 0, 2, 53}, long[:53]...)...)
	want[3] = filled(1, 0, 0, 0, 1, 0, 0, 0, 1, 2, 1, long[53])
	holds(t, "54 bytes", d, want)
	state(t, "54 bytes", s, 1, 3, 0)
	wants(t, "Append to a full half", s.Append([]byte{9}), api.ErrFull)
	opened(t, "full", d, []byte{7, 8}, long)

	wants(t, "Turn", s.Turn([][]byte{{9}}), api.OK)
	want[4] = filled(2, 0, 0, 0, 0, 0, 0, 0, 0, 1, 1, 9)
	want[0] = filled(0x53, 0x43, 0x52, 0x31, 2, 0, 0, 0, 1)
	holds(t, "turned", d, want)
	state(t, "turned", s, 2, 3, 2)
	state(t, "turned and opened", opened(t, "turned", d, []byte{9}), 2, 3, 2)
}

// P7.1

func TestFormatRefusesSmallDisks(t *testing.T) {
	for _, n := range []int{1, 2} {
		for _, b := range [][]byte{filled(), header(1, 0), header(last, 0), filled(1, 2, 3)} {
			d := disk(t, n)
			lay(t, d, 0, b)
			before := image(d)
			wants(t, "Format", scroll.Format(d), api.ErrArg)
			d.Cut()
			wants(t, "Format without power", scroll.Format(d), api.ErrArg)
			holds(t, "refused", d, before)
		}
	}
	wants(t, "Format of a disk of no blocks", scroll.Format(&block.Disk{}), api.ErrArg)
}

func TestFormatNewDisks(t *testing.T) {
	for _, n := range sizes {
		d, s := formatted(t, n)
		holds(t, "formatted", d, unlike(slices.Repeat([][]byte{filled()}, n), 0, header(1, 0)))
		if d.Writes() != 1 {
			t.Errorf("%d blocks: %d writes", n, d.Writes())
		}
		state(t, "formatted", s, 1, (n-1)/2, (n-1)/2)
	}
}

func TestFormatAgainTakesTheOtherHalf(t *testing.T) {
	d, s := formatted(t, 8)
	for i := range 5 {
		wants(t, "Append", s.Append(record(54, i)), api.OK)
		before := image(d)
		wants(t, "Format", scroll.Format(d), api.OK)
		holds(t, "formatted again", d, unlike(before, 0, header(uint32(i+2), byte(i+1)%2)))
		s = opened(t, "formatted again", d)
		state(t, "formatted again", s, i+2, 3, 3)
	}
}

func TestFormatGenerationIsAboveTheNextHalf(t *testing.T) {
	// The disk has 8 blocks: half 0 is 1 to 3, half 1 is 4 to 6, block 7 is of neither.
	for at := 1; at < 8; at++ {
		for half := range 2 {
			for _, there := range []uint32{1, 4, 5, 6, 9, 255, 256, 1 << 16, 1 << 24, last - 1} {
				d := disk(t, 8)
				lay(t, d, 0, header(5, byte(half)))
				lay(t, d, at, filled(binary.LittleEndian.AppendUint32(nil, there)...))
				want := uint32(6)
				if inNext := (at-1)/3 == 1-half; inNext {
					want = max(want, there+1)
				}
				before := image(d)
				wants(t, "Format", scroll.Format(d), api.OK)
				holds(t, "formatted", d, unlike(before, 0, header(want, byte(1-half))))
				opened(t, "formatted", d)
			}
		}
	}
}

func TestFormatWithoutHeaderTakesHalfZero(t *testing.T) {
	for _, none := range [][]byte{filled(), header(0, 1), header(last+1, 1), header(9, 2), append(header(9, 0)[:63], 1), filled(0x53, 0x43, 0x52, 0x30, 9)} {
		d := disk(t, 7)
		lay(t, d, 0, none)
		wants(t, "Format", scroll.Format(d), api.OK)
		holds(t, "nothing there", d, unlike(slices.Repeat([][]byte{filled()}, 7), 0, header(1, 0)))

		d = disk(t, 7)
		lay(t, d, 0, none, pieces(3, 0, record(9, 1))[0], pieces(20, 0, record(9, 1))[0], filled(), pieces(99, 0, record(9, 2))[0])
		before := image(d)
		wants(t, "Format", scroll.Format(d), api.OK)
		holds(t, "something there", d, unlike(before, 0, header(21, 0)))
		opened(t, "something there", d)
	}
}

func TestFormatOfTheLastGeneration(t *testing.T) {
	for half := range 2 {
		for at := range 7 {
			for _, there := range []uint32{last - 2, last - 1, last, last + 1, 1 << 31, 1<<31 + 5, math.MaxUint32 - 1, math.MaxUint32} {
				d := disk(t, 7)
				lay(t, d, 0, header(7, byte(half)))
				b := filled(binary.LittleEndian.AppendUint32(nil, there)...)
				if at == 0 {
					if there > last {
						continue
					}
					b = header(there, byte(half))
				}
				lay(t, d, at, b)
				before := image(d)
				counts := at == 0 || (at-1)/3 == 1-half
				if counts && there >= last {
					wants(t, "Format behind the last generation", scroll.Format(d), api.ErrScroll)
					holds(t, "refused", d, before)
					d.Cut()
					wants(t, "Format without power", scroll.Format(d), api.ErrScroll)
					continue
				}
				want := uint32(8)
				if counts {
					want = there + 1
				}
				wants(t, "Format", scroll.Format(d), api.OK)
				holds(t, "formatted", d, unlike(before, 0, header(want, byte(1-half))))
				state(t, "formatted", opened(t, "formatted", d), int(want), 3, 3)
			}
		}
	}
}

func TestFormatWithoutPower(t *testing.T) {
	for _, lose := range []func(*block.Disk){(*block.Disk).Cut, func(d *block.Disk) { d.Fuse(0) }} {
		d, s := formatted(t, 7)
		s.Append([]byte{1})
		before := image(d)
		lose(d)
		wants(t, "Format without power", scroll.Format(d), api.ErrPower)
		holds(t, "without power", d, before)
		opened(t, "without power", d, []byte{1})
		d.Power()
		d.Fuse(1)
		wants(t, "Format with one write", scroll.Format(d), api.OK)
		opened(t, "with one write", d)
	}
}

// P7.2: the header.

func refused(t *testing.T, what string, d *block.Disk) {
	t.Helper()
	if s, records, e := scroll.Open(d); s != nil || len(records) != 0 || e != api.ErrScroll {
		t.Errorf("%s: Open: %v, %v, %d", what, s, records, e)
	}
}

func TestOpenRefusesSmallDisks(t *testing.T) {
	for _, n := range []int{1, 2} {
		for _, b := range [][]byte{filled(), header(1, 0), header(1, 1)} {
			d := disk(t, n)
			lay(t, d, 0, b)
			refused(t, "a small disk", d)
		}
	}
	refused(t, "a disk of no blocks", &block.Disk{})
}

func TestOpenSmallestDisks(t *testing.T) {
	for _, n := range []int{3, 4} {
		for half := range 2 {
			d := disk(t, n)
			lay(t, d, 0, header(4, byte(half)))
			lay(t, d, 1+half, piece(4, 0, 0, 1, []byte{6}))
			state(t, "a disk of halves of one block", opened(t, "one block", d, []byte{6}), 4, 1, 0)
		}
	}
}

func TestOpenHeaderOfOneOtherByte(t *testing.T) {
	for _, right := range [][]byte{header(1, 0), header(0x01020304, 1), header(last, 0)} {
		for at := range api.BlockSize {
			for value := range 256 {
				b := bytes.Clone(right)
				b[at] = byte(value)
				d := disk(t, 5)
				lay(t, d, 0, b)
				generation := binary.LittleEndian.Uint32(b[4:])
				good := b[at] == right[at] || at >= 4 && at < 8 && generation >= 1 && generation <= last || at == 8 && value < 2
				if !good {
					refused(t, "a header of one other byte", d)
					continue
				}
				state(t, "a header", opened(t, "a header", d), int(generation), 2, 2)
			}
		}
	}
}

func TestOpenGenerations(t *testing.T) {
	for _, generation := range []uint32{1, 2, 255, 256, 1 << 16, 1 << 24, last - 1, last} {
		d := disk(t, 5)
		lay(t, d, 0, header(generation, 1))
		lay(t, d, 3, piece(int(generation), 0, 0, 1, []byte{5}))
		state(t, "a generation", opened(t, "a generation", d, []byte{5}), int(generation), 2, 1)
	}
	for _, generation := range []uint32{0, last + 1, last + 256, 1 << 31, 1<<31 + 1, math.MaxUint32} {
		d := disk(t, 5)
		lay(t, d, 0, header(generation, 0))
		refused(t, "no generation", d)
	}
}

func TestOpenWritesNothing(t *testing.T) {
	d, s := formatted(t, 9)
	s.Append(record(60, 1))
	before, writes := image(d), d.Writes()
	d.Fuse(0)
	opened(t, "a fuse", d, record(60, 1))
	if !d.On() {
		t.Error("Open has written")
	}
	d.Cut()
	state(t, "no power", opened(t, "no power", d, record(60, 1)), 1, 4, 2)
	holds(t, "opened", d, before)
	if d.On() || d.Writes() != writes {
		t.Errorf("opened: On %v, Writes %d", d.On(), d.Writes())
	}
}
