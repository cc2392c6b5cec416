package scroll_test

import (
	"math/rand"
	"slices"
	"testing"

	"vista/api"
	"vista/block"
	"vista/scroll"
)

// P7.5

// change is an Append, or (turn) a Turn, with records of these sizes.
type change struct {
	turn  bool
	sizes []int
}

// writes is how many raw writes a change needs.
func (c change) writes() int {
	n := 0
	for _, size := range c.sizes {
		n += (size + 52) / 53
	}
	if c.turn {
		n++
	}
	return n
}

// records are what a change hands in; from makes them unlike those of other changes.
func (c change) records(from int) [][]byte {
	var all [][]byte
	for i, size := range c.sizes {
		all = append(all, record(size, 17*from+5*i))
	}
	return all
}

// life is a disk with a scroll, and the records that it must tell.
type life struct {
	d    *block.Disk
	s    *scroll.Scroll
	told [][]byte
	step int
}

// goesOn does a change with a fuse of so many writes, and looks at the disk behind it, ahead of the power's return and behind it.
func (l *life) goesOn(t *testing.T, c change, fuse int, reopen bool) {
	t.Helper()
	l.step++
	records, room := c.records(l.step), l.s.Room()
	behind, need := records, c.writes()
	if !c.turn {
		behind = append(slices.Clone(l.told), records...)
	} else {
		room = l.s.Half() + 1
	}
	want := api.OK
	switch {
	case need > room:
		want = api.ErrFull
	case need > fuse:
		want = api.ErrPower
	}
	l.d.Fuse(fuse)
	var e api.Errno
	if c.turn {
		e = l.s.Turn(records)
	} else {
		e = l.s.Append(records[0])
	}
	wants(t, "a change with a fuse", e, want)
	if e == api.OK {
		l.told = behind
	}
	opened(t, "a change with a fuse", l.d, l.told...)
	l.d.Power()
	s := opened(t, "the power is back", l.d, l.told...)
	state(t, "the power is back", l.s, s.Generation(), s.Half(), s.Room())
	if reopen {
		l.s = s
	}
}

// begun is a life over a new disk.
func begun(t *testing.T, n int) *life {
	t.Helper()
	d, s := formatted(t, n)
	return &life{d: d, s: s}
}

func TestCutsOfOneChange(t *testing.T) {
	for _, ahead := range [][]change{
		nil,
		{{false, []int{60}}},
		{{false, []int{1}}, {false, []int{107}}},
		{{true, []int{200, 1}}},
		{{true, nil}, {true, []int{424}}, {false, []int{53}}},
	} {
		for _, c := range []change{
			{false, []int{1}}, {false, []int{53}}, {false, []int{54}}, {false, []int{107}}, {false, []int{api.MaxRecord}},
			{true, nil}, {true, []int{1}}, {true, []int{54, 1}}, {true, []int{api.MaxRecord, 107, 53, 1}},
		} {
			for fuse := range c.writes() + 2 {
				for _, reopen := range []bool{false, true} {
					l := begun(t, 41)
					for _, a := range ahead {
						l.goesOn(t, a, 99, reopen)
					}
					l.goesOn(t, c, fuse, reopen)
					// Whatever follows.
					l.goesOn(t, change{false, []int{54}}, 99, reopen)
					l.goesOn(t, change{true, []int{54, 54}}, 99, reopen)
					l.goesOn(t, change{false, []int{1}}, 99, reopen)
				}
			}
		}
	}
}

// cuts is how many numbers cutOf knows.
const cuts = 32

// cutOf makes a number into a change, a fuse within it, and whether the disk is opened anew behind it.
func cutOf(number int) (c change, fuse int, reopen bool) {
	reopen = number%2 == 1
	number /= 2
	for _, c := range []change{{false, []int{3}}, {false, []int{106}}, {false, []int{107}}, {true, nil}, {true, []int{54, 2}}} {
		if number <= c.writes() {
			return c, number, reopen
		}
		number -= c.writes() + 1
	}
	panic("no such cut")
}

// All lists of three cuts, and a record behind each: what one has left is never taken for a part of another.
func TestCutsBehindCuts(t *testing.T) {
	for number := range cuts * cuts * cuts {
		l := begun(t, 11)
		for left, i := number, 0; i < 3; i++ {
			c, fuse, reopen := cutOf(left % cuts)
			l.goesOn(t, c, fuse, reopen)
			left /= cuts
		}
		l.goesOn(t, change{false, []int{5}}, 1, false)
		if t.Failed() {
			t.Fatalf("at the cuts %d", number)
		}
	}
}

func TestManyCuts(t *testing.T) {
	for seed := range 300 {
		r := rand.New(rand.NewSource(int64(seed)))
		l := begun(t, 3+r.Intn(20))
		for range 60 {
			c := change{turn: r.Intn(3) == 0}
			for range 1 + r.Intn(3) {
				c.sizes = append(c.sizes, 1+r.Intn(53*(1+r.Intn(4))))
			}
			if !c.turn {
				c.sizes = c.sizes[:1]
			}
			l.goesOn(t, c, r.Intn(c.writes()+2), r.Intn(2) == 0)
		}
		if t.Failed() {
			t.Fatalf("at the seed %d", seed)
		}
	}
}

// The same cut, again and again, at the first write behind the one before: nothing comes of it, and the generations do not run out by it.
func TestTheSameCutAgainAndAgain(t *testing.T) {
	for fuse := range 4 {
		l := begun(t, 11)
		l.goesOn(t, change{false, []int{7}}, 1, false)
		for i := range 50 {
			l.goesOn(t, change{false, []int{200}}, min(fuse, 3), i%2 == 0)
			l.goesOn(t, change{true, []int{107}}, fuse, i%2 == 1)
			l.goesOn(t, change{false, []int{200}}, 0, i%3 == 0)
		}
		if g := l.s.Generation(); g != 1 {
			t.Errorf("Generation %d", g)
		}
		l.goesOn(t, change{true, []int{107}}, 4, false)
		want := 2
		if fuse > 0 {
			want = 52
		}
		if g := l.s.Generation(); g != want {
			t.Errorf("behind cuts of %d writes: Generation %d, not %d", fuse, g, want)
		}
	}
}
