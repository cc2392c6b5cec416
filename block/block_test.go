package block_test

import (
	"bytes"
	"math"
	"slices"
	"strconv"
	"testing"

	"vista/api"
	"vista/block"
)

// of is a block's bytes, all alike.
func of(b byte) []byte {
	return bytes.Repeat([]byte{b}, api.BlockSize)
}

// mixed is a block's bytes, no two alike.
func mixed(from int) []byte {
	b := make([]byte, api.BlockSize)
	for i := range b {
		b[i] = byte(from + 3*i)
	}
	return b
}

// disk is a new disk.
func disk(t *testing.T, n int) *block.Disk {
	t.Helper()
	d, e := block.New(n)
	if d == nil || e != api.OK {
		t.Fatalf("New(%d): %v, %d", n, d, e)
	}
	return d
}

// wants fails if an error's number is another one.
func wants(t *testing.T, what string, got, want api.Errno) {
	t.Helper()
	if got != want {
		t.Errorf("%s: %d, not %d", what, got, want)
	}
}

// state fails if a disk's power and writes are others.
func state(t *testing.T, what string, d *block.Disk, on bool, writes int) {
	t.Helper()
	if d.On() != on || d.Writes() != writes {
		t.Errorf("%s: On %v, Writes %d, not %v, %d", what, d.On(), d.Writes(), on, writes)
	}
}

// holds fails if a disk's blocks are others than these.
func holds(t *testing.T, what string, d *block.Disk, blocks ...[]byte) {
	t.Helper()
	if d.Size() != len(blocks) {
		t.Fatalf("%s: Size %d, not %d", what, d.Size(), len(blocks))
	}
	for i, want := range blocks {
		if b, e := d.Read(i); e != api.OK || !bytes.Equal(b, want) {
			t.Errorf("%s: Read(%d): %v, %d", what, i, b, e)
		}
	}
}

// outside are numbers of blocks that a disk of n blocks does not have.
func outside(n int) []int {
	return []int{-1, -2, -n, -n - 1, n, n + 1, 2 * n, n + api.BlockSize, api.MaxBlocks, 1 << 31, 1 << 32, math.MinInt, math.MinInt + 1, math.MaxInt}
}

// wrong are lists of bytes that are no block's.
func wrong() [][]byte {
	return [][]byte{nil, {}, {1}, of(1)[1:], of(1)[:api.BlockSize-1], append(of(1), 1), append(of(1), of(1)...), make([]byte, 1<<16)}
}

// P3.1

func TestNewRefuses(t *testing.T) {
	for _, n := range []int{0, -1, -2, -api.MaxBlocks, api.MaxBlocks + 1, 2 * api.MaxBlocks, 1 << 32, 1<<32 + 1, math.MinInt, math.MinInt + 1, math.MaxInt} {
		if d, e := block.New(n); d != nil || e != api.ErrArg {
			t.Errorf("New(%d): %v, %d", n, d, e)
		}
	}
}

func TestNew(t *testing.T) {
	for _, n := range []int{1, 2, 3, 63, 64, 65, api.MaxBlocks - 1, api.MaxBlocks} {
		d := disk(t, n)
		what := "New(" + strconv.Itoa(n) + ")"
		state(t, what, d, true, 0)
		holds(t, what, d, slices.Repeat([][]byte{of(0)}, n)...)
	}
}

func TestNoFuseBurnsOnNewDisk(t *testing.T) {
	d := disk(t, 1)
	for n := range 1000 {
		wants(t, "Write", d.Write(0, of(byte(n))), api.OK)
		state(t, "Write", d, true, n+1)
	}
}

// P3.2

func TestWrite(t *testing.T) {
	for _, n := range []int{1, 2, 7, api.MaxBlocks} {
		d := disk(t, n)
		want := make([][]byte, n)
		for i := range n {
			want[i] = mixed(n - i)
			wants(t, "Write", d.Write(i, want[i]), api.OK)
			state(t, "Write", d, true, i+1)
		}
		holds(t, "all written", d, want...)
	}
}

func TestWriteTurnsItsBlockAlone(t *testing.T) {
	for i := range 3 {
		d := disk(t, 3)
		want := [][]byte{of(0), of(0), of(0)}
		want[i] = of(0xff)
		wants(t, "Write", d.Write(i, of(0xff)), api.OK)
		holds(t, "Write", d, want...)
	}
}

func TestWriteOver(t *testing.T) {
	d := disk(t, 2)
	for n, b := range [][]byte{mixed(1), of(0xff), of(0), mixed(5), mixed(5)} {
		wants(t, "Write", d.Write(1, b), api.OK)
		holds(t, "Write over", d, of(0), b)
		state(t, "Write over", d, true, n+1)
	}
}

func TestWriteRefusesBlocks(t *testing.T) {
	for _, n := range []int{1, 2, api.MaxBlocks} {
		d := disk(t, n)
		for _, i := range outside(n) {
			wants(t, "Write", d.Write(i, of(1)), api.ErrBlock)
		}
		state(t, "no such block", d, true, 0)
		holds(t, "no such block", d, slices.Repeat([][]byte{of(0)}, n)...)
	}
}

func TestWriteRefusesBytes(t *testing.T) {
	d := disk(t, 2)
	d.Write(0, mixed(1))
	d.Write(1, mixed(2))
	for _, b := range wrong() {
		wants(t, "Write", d.Write(0, b), api.ErrArg)
		wants(t, "Write", d.Write(1, b), api.ErrArg)
	}
	state(t, "no block's bytes", d, true, 2)
	holds(t, "no block's bytes", d, mixed(1), mixed(2))
}

func TestWriteWithoutPower(t *testing.T) {
	d := disk(t, 2)
	d.Write(0, mixed(1))
	d.Cut()
	for i := range 2 {
		wants(t, "Write", d.Write(i, of(7)), api.ErrPower)
	}
	state(t, "no power", d, false, 1)
	holds(t, "no power", d, mixed(1), of(0))
}

func TestFirstErrorOfWrite(t *testing.T) {
	d := disk(t, 2)
	for _, prepare := range []func(){func() { d.Fuse(0) }, d.Cut} {
		prepare()
		for _, b := range append(wrong(), of(1)) {
			for _, i := range outside(2) {
				wants(t, "ErrBlock first", d.Write(i, b), api.ErrBlock)
			}
		}
		for _, b := range wrong() {
			wants(t, "ErrArg next", d.Write(1, b), api.ErrArg)
		}
		wants(t, "ErrPower last", d.Write(1, of(1)), api.ErrPower)
	}
}

func TestRefusedWriteLeavesTheFuse(t *testing.T) {
	d := disk(t, 1)
	wants(t, "Fuse", d.Fuse(1), api.OK)
	for _, b := range wrong() {
		wants(t, "Write", d.Write(0, b), api.ErrArg)
		wants(t, "Write", d.Write(1, of(1)), api.ErrBlock)
		state(t, "refused", d, true, 0)
	}
	wants(t, "Write", d.Write(0, of(1)), api.OK)
	wants(t, "Write", d.Write(-1, of(2)), api.ErrBlock)
	wants(t, "Write", d.Write(0, nil), api.ErrArg)
	state(t, "refused at the fuse's end", d, true, 1)
	wants(t, "Write", d.Write(0, of(2)), api.ErrPower)
	state(t, "burnt", d, false, 1)
}

func TestBurntFuseIsGone(t *testing.T) {
	d := disk(t, 1)
	d.Fuse(0)
	wants(t, "Write", d.Write(0, of(1)), api.ErrPower)
	state(t, "burnt", d, false, 0)
	d.Power()
	for n := range 5 {
		wants(t, "Write", d.Write(0, of(1)), api.OK)
		state(t, "power again", d, true, n+1)
	}
}

// P3.3

func TestReadRefuses(t *testing.T) {
	for _, n := range []int{1, 2, api.MaxBlocks} {
		d := disk(t, n)
		for range 2 {
			for _, i := range outside(n) {
				if b, e := d.Read(i); len(b) != 0 || e != api.ErrBlock {
					t.Errorf("Read(%d) of %d blocks: %v, %d", i, n, b, e)
				}
			}
			d.Cut()
		}
	}
}

func TestReadWithoutPower(t *testing.T) {
	d := disk(t, 3)
	d.Write(0, mixed(1))
	d.Fuse(1)
	d.Write(2, mixed(2))
	d.Write(1, mixed(3))
	state(t, "burnt", d, false, 2)
	holds(t, "burnt", d, mixed(1), of(0), mixed(2))
	d.Power()
	d.Cut()
	holds(t, "cut", d, mixed(1), of(0), mixed(2))
}

func TestReadTurnsNothing(t *testing.T) {
	d := disk(t, 1)
	d.Fuse(1)
	for range 5 {
		holds(t, "ahead", d, of(0))
		d.Read(1)
		state(t, "Read", d, true, 0)
	}
	wants(t, "Write", d.Write(0, of(1)), api.OK)
	for range 5 {
		holds(t, "behind", d, of(1))
		d.Read(-1)
		state(t, "Read", d, true, 1)
	}
	wants(t, "Write", d.Write(0, of(2)), api.ErrPower)
	holds(t, "burnt", d, of(1))
	state(t, "Read without power", d, false, 1)
}

// P3.4

func TestFuseRefuses(t *testing.T) {
	below := []int{-1, -2, -api.MaxBlocks, math.MinInt, math.MinInt + 1}
	d := disk(t, 1)
	wants(t, "Fuse", d.Fuse(2), api.OK)
	for _, n := range below {
		wants(t, "Fuse below 0", d.Fuse(n), api.ErrArg)
	}
	state(t, "Fuse below 0", d, true, 0)
	for _, want := range []api.Errno{api.OK, api.OK, api.ErrPower} {
		wants(t, "the fuse that burned goes on", d.Write(0, of(1)), want)
	}
	for _, n := range below {
		wants(t, "Fuse below 0 without power", d.Fuse(n), api.ErrArg)
	}
	for _, n := range []int{0, 1, 2, math.MaxInt} {
		wants(t, "Fuse without power", d.Fuse(n), api.ErrPower)
	}
	state(t, "Fuse without power", d, false, 2)
	d.Power()
	for range 5 {
		wants(t, "no refused fuse burns", d.Write(0, of(1)), api.OK)
	}
}

func TestFuseDoesNotBurnByItself(t *testing.T) {
	d := disk(t, 1)
	for _, n := range []int{0, 1, 2, 1 << 31, math.MaxInt} {
		wants(t, "Fuse", d.Fuse(n), api.OK)
		state(t, "Fuse", d, true, 0)
	}
}

func TestLongFuse(t *testing.T) {
	for _, n := range []int{1 << 32, 1<<32 + 1, math.MaxInt - 1, math.MaxInt} {
		d := disk(t, 1)
		d.Fuse(n)
		for range 100 {
			wants(t, "Write", d.Write(0, of(1)), api.OK)
		}
	}
}

// lasts tells how many writes a disk does till its power is gone, at most 50.
func lasts(d *block.Disk) int {
	for n := range 50 {
		if d.Write(0, of(1)) != api.OK {
			return n
		}
	}
	return 50
}

func TestFuseOverAnother(t *testing.T) {
	for first := range 5 {
		for used := range first + 1 {
			for second := range 5 {
				d := disk(t, 1)
				d.Fuse(first)
				for range used {
					wants(t, "Write", d.Write(0, of(1)), api.OK)
				}
				wants(t, "Fuse", d.Fuse(second), api.OK)
				if n := lasts(d); n != second {
					t.Errorf("a fuse of %d, %d used, then one of %d: %d writes", first, used, second, n)
				}
			}
		}
	}
}

func TestCutAndPower(t *testing.T) {
	d := disk(t, 2)
	for range 2 {
		d.Power()
		state(t, "Power", d, true, 0)
	}
	d.Write(1, mixed(4))
	for range 2 {
		d.Cut()
		state(t, "Cut", d, false, 1)
	}
	holds(t, "Cut", d, of(0), mixed(4))
	d.Power()
	state(t, "Power", d, true, 1)
	holds(t, "Power", d, of(0), mixed(4))
	wants(t, "Write", d.Write(0, mixed(5)), api.OK)
	holds(t, "Write", d, mixed(5), mixed(4))
}

func TestCutAndPowerTakeTheFuseAway(t *testing.T) {
	for n := range 3 {
		d := disk(t, 1)
		d.Fuse(n)
		d.Power()
		if got := lasts(d); got != 50 {
			t.Errorf("Fuse(%d), Power: %d writes", n, got)
		}
		d.Fuse(n)
		d.Cut()
		wants(t, "Write", d.Write(0, of(1)), api.ErrPower)
		d.Power()
		if got := lasts(d); got != 50 {
			t.Errorf("Fuse(%d), Cut, Power: %d writes", n, got)
		}
	}
}

func TestWritesAreSinceNew(t *testing.T) {
	d := disk(t, 2)
	done := 0
	for n := range 10 {
		d.Power()
		d.Fuse(n)
		done += lasts(d)
		state(t, "burnt", d, false, done)
	}
	if done != 45 {
		t.Errorf("%d writes were done", done)
	}
}

func TestCopyIsInTheSameState(t *testing.T) {
	for _, n := range []int{1, 2, api.MaxBlocks} {
		d := disk(t, n)
		want := slices.Repeat([][]byte{of(0)}, n)
		want[0], want[n-1] = mixed(1), mixed(2)
		d.Write(0, want[0])
		d.Write(n-1, want[n-1])
		c := d.Copy()
		state(t, "a copy", c, true, 2)
		holds(t, "a copy", c, want...)
		if got := lasts(c); got != 50 {
			t.Errorf("a copy without a fuse: %d writes", got)
		}
		d.Cut()
		c = d.Copy()
		state(t, "a copy without power", c, false, 2)
		holds(t, "a copy without power", c, want...)
		wants(t, "Write", c.Write(0, of(1)), api.ErrPower)
		wants(t, "Fuse", c.Fuse(1), api.ErrPower)
	}
}

func TestCopyOfBurningDisk(t *testing.T) {
	for laid := range 4 {
		for used := range laid + 1 {
			d := disk(t, 1)
			d.Fuse(laid)
			for range used {
				d.Write(0, of(1))
			}
			c := d.Copy()
			c2 := c.Copy()
			for _, x := range []*block.Disk{c, d, c2} {
				state(t, "ahead", x, true, used)
				if n := lasts(x); n != laid-used {
					t.Errorf("a fuse of %d, %d used, then a copy: %d writes", laid, used, n)
				}
				state(t, "burnt", x, false, laid)
			}
		}
	}
}

func TestCopyHasNothingInCommon(t *testing.T) {
	for turn := range 2 {
		d := disk(t, 2)
		d.Write(0, mixed(1))
		d.Fuse(2)
		used, kept := d, d.Copy()
		if turn == 1 {
			used, kept = kept, used
		}
		for _, use := range []func(){
			func() { used.Write(0, of(9)) },
			func() { used.Write(1, of(8)) },
			func() { used.Write(1, of(7)) },
			used.Power,
			func() { used.Fuse(0) },
			used.Cut,
			used.Power,
			func() { used.Write(1, of(7)) },
			used.Cut,
		} {
			use()
			state(t, "the other disk", kept, true, 1)
			holds(t, "the other disk", kept, mixed(1), of(0))
		}
		holds(t, "the used disk", used, of(9), of(7))
		if n := lasts(kept); n != 2 {
			t.Errorf("the other disk's fuse: %d writes", n)
		}
	}
}

// P3.5

func TestJustTheNextWritesAreDone(t *testing.T) {
	for n := range 8 {
		d := disk(t, 3)
		want := [][]byte{mixed(1), of(0), of(0)}
		d.Write(0, want[0])
		d.Fuse(n)
		for k := range 12 {
			b := mixed(10 + k)
			if k < n {
				want[k%3] = b
				wants(t, "within the fuse", d.Write(k%3, b), api.OK)
			} else {
				wants(t, "behind the fuse", d.Write(k%3, b), api.ErrPower)
			}
			wants(t, "no block", d.Write(3, b), api.ErrBlock)
			state(t, "fuse", d, k < n, 1+min(k+1, n))
			holds(t, "fuse", d, want...)
		}
		d.Power()
		wants(t, "with power again", d.Write(2, of(5)), api.OK)
	}
}

// model is a disk as the chapter tells it; fuse is below 0 if none burns.
type model struct {
	blocks [][]byte
	on     bool
	fuse   int
	writes int
}

func (m *model) write(i int, b []byte) api.Errno {
	switch {
	case i < 0 || i >= len(m.blocks):
		return api.ErrBlock
	case len(b) != api.BlockSize:
		return api.ErrArg
	case !m.on:
		return api.ErrPower
	case m.fuse == 0:
		m.on, m.fuse = false, -1
		return api.ErrPower
	}
	m.blocks[i] = bytes.Clone(b)
	m.writes++
	m.fuse = max(m.fuse-1, -1)
	return api.OK
}

func (m *model) light(n int) api.Errno {
	switch {
	case n < 0:
		return api.ErrArg
	case !m.on:
		return api.ErrPower
	}
	m.fuse = n
	return api.OK
}

// step does one of nine things to a disk and to its model; a number that is unlike at each step makes the blocks unlike.
func step(d *block.Disk, m *model, what, number int) (got, want api.Errno) {
	b := mixed(number)
	switch what {
	case 0, 1, 2:
		return d.Write(what, b), m.write(what, b)
	case 3:
		return d.Write(0, b[1:]), m.write(0, b[1:])
	case 4, 5, 6:
		return d.Fuse(what - 5), m.light(what - 5)
	case 7:
		d.Cut()
		m.on, m.fuse = false, -1
	case 8:
		d.Power()
		m.on, m.fuse = true, -1
	}
	return api.OK, api.OK
}

// script makes a number into a list of n steps.
func script(number, n int) []int {
	steps := make([]int, n)
	for i := range steps {
		steps[i] = number % 9
		number /= 9
	}
	return steps
}

func TestEveryShortScript(t *testing.T) {
	const long = 5
	for number := range 9 * 9 * 9 * 9 * 9 {
		d, twin := disk(t, 2), disk(t, 2)
		m := &model{blocks: [][]byte{of(0), of(0)}, on: true, fuse: -1}
		m2 := &model{blocks: [][]byte{of(0), of(0)}, on: true, fuse: -1}
		steps := script(number, long)
		for i, what := range steps {
			got, want := step(d, m, what, i+1)
			again, _ := step(twin, m2, what, i+1)
			if got != want || again != want {
				t.Fatalf("%v, step %d: %d and %d, not %d", steps, i, got, again, want)
			}
			// A copy goes on as the disk itself would.
			if i == 2 {
				d = d.Copy()
			}
		}
		for _, x := range []*block.Disk{d, twin} {
			state(t, "a script", x, m.on, m.writes)
			holds(t, "a script", x, m.blocks...)
		}
		if t.Failed() {
			t.Fatalf("at the script %v", steps)
		}
	}
}

func TestDisksHaveNothingInCommon(t *testing.T) {
	a, b := disk(t, 1), disk(t, 1)
	a.Write(0, mixed(1))
	a.Fuse(0)
	state(t, "the other disk", b, true, 0)
	holds(t, "the other disk", b, of(0))
	if n := lasts(b); n != 50 {
		t.Errorf("the other disk: %d writes", n)
	}
	b.Cut()
	state(t, "the first disk", a, true, 1)
	holds(t, "the first disk", a, mixed(1))
}

func TestExampleOfTheChapter(t *testing.T) {
	d := disk(t, 2)
	wants(t, "Write(2)", d.Write(2, of(1)), api.ErrBlock)
	wants(t, "Write of 63 bytes", d.Write(0, of(1)[1:]), api.ErrArg)
	wants(t, "Fuse(1)", d.Fuse(1), api.OK)
	wants(t, "Write(0)", d.Write(0, of(7)), api.OK)
	wants(t, "Write(1)", d.Write(1, of(8)), api.ErrPower)
	state(t, "behind the fuse", d, false, 1)
	wants(t, "Write(0)", d.Write(0, of(9)), api.ErrPower)
	holds(t, "behind the fuse", d, of(7), of(0))
	d.Power()
	wants(t, "Write(1)", d.Write(1, of(8)), api.OK)
	state(t, "at the end", d, true, 2)
}

// R3

func TestWrittenBytesAreNeitherChangedNorKept(t *testing.T) {
	d := disk(t, 1)
	room := append(mixed(1), mixed(2)...)
	b := room[:api.BlockSize]
	for _, prepare := range []func(){func() {}, func() { d.Fuse(0) }, d.Cut} {
		prepare()
		d.Write(0, b)
		d.Write(1, b)
		d.Write(0, room)
		if !bytes.Equal(room, append(mixed(1), mixed(2)...)) {
			t.Fatalf("the bytes have become %v", room)
		}
	}
	for i := range room {
		room[i] = 0xff
	}
	holds(t, "what was written", d, mixed(1))
}

func TestReadBytesAreNewMemory(t *testing.T) {
	d := disk(t, 2)
	d.Write(0, mixed(1))
	d.Write(1, mixed(2))
	c := d.Copy()
	first, _ := d.Read(0)
	second, _ := d.Read(0)
	all := first[:cap(first)]
	for i := range all {
		all[i] = 0xee
	}
	if !bytes.Equal(second, mixed(1)) {
		t.Errorf("two reads have memory in common: %v", second)
	}
	holds(t, "the disk", d, mixed(1), mixed(2))
	holds(t, "the copy", c, mixed(1), mixed(2))
	d.Write(0, of(3))
	if !bytes.Equal(second, mixed(1)) {
		t.Errorf("a later write turned what was read: %v", second)
	}
}
