package mark_test

import (
	"math"
	"slices"
	"testing"

	"vista/api"
	"vista/mark"
)

// goodParts are parts that a mark may have, the edges among them.
func goodParts() []float64 {
	return []float64{0, math.Copysign(0, -1), 1, 2, 5, api.MaxMark - 1, api.MaxMark}
}

// badParts are parts that no mark has: below 0, not whole, too great, without an end, no number.
func badParts() []float64 {
	return []float64{
		-1, -7, -api.MaxMark, -math.MaxFloat64,
		0.5, 1.5, -0.5, api.MaxMark - 0.5, math.SmallestNonzeroFloat64, -math.SmallestNonzeroFloat64,
		api.MaxMark + 1, api.MaxMark + 0.5, 1 << 53, 1 << 63, 1 << 64, math.MaxFloat64,
		math.Inf(1), math.Inf(-1), math.NaN(),
	}
}

// goodMarks are all marks of the good parts.
func goodMarks() []complex128 {
	var ms []complex128
	for _, epoch := range goodParts() {
		for _, number := range goodParts() {
			ms = append(ms, complex(epoch, number))
		}
	}
	return ms
}

// badMarks are numbers of which one part, or both, may not be.
func badMarks() []complex128 {
	var ms []complex128
	for _, bad := range badParts() {
		for _, good := range goodParts() {
			ms = append(ms, complex(bad, good), complex(good, bad))
		}
		for _, other := range badParts() {
			ms = append(ms, complex(bad, other))
		}
	}
	return ms
}

// hasMinus tells whether a part is -0, which == can't tell from 0.
func hasMinus(m complex128) bool {
	return math.Signbit(real(m)) || math.Signbit(imag(m))
}

// P1.1

func TestAt(t *testing.T) {
	for _, x := range []struct {
		epoch, number int
		want          complex128
	}{
		{0, 0, 0}, {2, 5, 2 + 5i}, {0, 1, 1i}, {1, 0, 1}, {7, 7, 7 + 7i},
		{api.MaxMark, 0, complex(api.MaxMark, 0)}, {0, api.MaxMark, complex(0, api.MaxMark)},
		{api.MaxMark, api.MaxMark, complex(api.MaxMark, api.MaxMark)},
		{api.MaxMark - 1, 3, complex(api.MaxMark-1, 3)},
	} {
		m, e := mark.At(x.epoch, x.number)
		if m != x.want || e != api.OK {
			t.Errorf("At(%d, %d) = %v, %d", x.epoch, x.number, m, e)
		}
		if !mark.Good(m) || mark.Epoch(m) != x.epoch || mark.Number(m) != x.number {
			t.Errorf("At(%d, %d) is read as %v, %d, %d", x.epoch, x.number, mark.Good(m), mark.Epoch(m), mark.Number(m))
		}
	}
}

func TestAtRefuses(t *testing.T) {
	bad := []int{-1, -2, api.MaxMark + 1, 1 << 53, 1<<53 + 1, math.MaxInt, math.MinInt, math.MinInt + 1, -api.MaxMark}
	for _, b := range bad {
		for _, x := range [][2]int{{b, 0}, {0, b}, {b, 5}, {5, b}, {b, b}, {b, api.MaxMark}, {api.MaxMark, b}} {
			if m, e := mark.At(x[0], x[1]); m != 0 || e != api.ErrArg {
				t.Errorf("At(%d, %d) = %v, %d", x[0], x[1], m, e)
			}
		}
	}
}

func TestPartsOfGoodMarks(t *testing.T) {
	for _, m := range goodMarks() {
		if !mark.Good(m) {
			t.Errorf("Good(%v) is false", m)
		}
		if n := mark.Epoch(m); float64(n) != real(m) {
			t.Errorf("Epoch(%v) = %d", m, n)
		}
		if n := mark.Number(m); float64(n) != imag(m) {
			t.Errorf("Number(%v) = %d", m, n)
		}
	}
}

func TestPartsOfOtherNumbers(t *testing.T) {
	for _, m := range badMarks() {
		if mark.Good(m) || mark.Epoch(m) != 0 || mark.Number(m) != 0 {
			t.Errorf("%v: %v, %d, %d", m, mark.Good(m), mark.Epoch(m), mark.Number(m))
		}
	}
}

// P1.2

func TestNext(t *testing.T) {
	for _, x := range []struct{ m, want complex128 }{
		{0, 1i}, {2 + 5i, 2 + 6i}, {3, 3 + 1i},
		{complex(math.Copysign(0, -1), math.Copysign(0, -1)), 1i},
		{complex(api.MaxMark, api.MaxMark-1), complex(api.MaxMark, api.MaxMark)},
	} {
		if m, e := mark.Next(x.m); m != x.want || e != api.OK || hasMinus(m) {
			t.Errorf("Next(%v) = %v, %d", x.m, m, e)
		}
	}
}

func TestNextRefuses(t *testing.T) {
	ms := append(badMarks(), complex(0, api.MaxMark), complex(3, api.MaxMark), complex(api.MaxMark, api.MaxMark))
	for _, m := range ms {
		if n, e := mark.Next(m); n != 0 || e != api.ErrArg {
			t.Errorf("Next(%v) = %v, %d", m, n, e)
		}
	}
}

func TestRestart(t *testing.T) {
	for _, x := range []struct{ m, want complex128 }{
		{0, 1}, {2 + 5i, 3}, {7i, 1},
		{complex(math.Copysign(0, -1), math.Copysign(0, -1)), 1},
		{complex(4, api.MaxMark), 5},
		{complex(api.MaxMark-1, 2), complex(api.MaxMark, 0)},
	} {
		if m, e := mark.Restart(x.m); m != x.want || e != api.OK || hasMinus(m) {
			t.Errorf("Restart(%v) = %v, %d", x.m, m, e)
		}
	}
}

func TestRestartRefuses(t *testing.T) {
	ms := append(badMarks(), complex(api.MaxMark, 0), complex(api.MaxMark, 3), complex(api.MaxMark, api.MaxMark))
	for _, m := range ms {
		if n, e := mark.Restart(m); n != 0 || e != api.ErrArg {
			t.Errorf("Restart(%v) = %v, %d", m, n, e)
		}
	}
}

// P1.3

func TestGap(t *testing.T) {
	minus := math.Copysign(0, -1)
	for _, x := range []struct {
		from, to complex128
		n        int
		ok       bool
	}{
		{2 + 5i, 2 + 9i, 4, true}, {2 + 5i, 2 + 5i, 0, true}, {0, 0, 0, true}, {0, 1i, 1, true},
		{complex(minus, 1), 3i, 2, true}, {complex(0, minus), complex(minus, 0), 0, true},
		{7, complex(7, api.MaxMark), api.MaxMark, true},
		{2 + 9i, 2 + 5i, 0, false}, {1i, 0, 0, false}, {complex(7, api.MaxMark), 7, 0, false},
		{2 + 5i, 3 + 9i, 0, false}, {3 + 5i, 2 + 9i, 0, false}, {2 + 5i, 3 + 5i, 0, false},
	} {
		if n, ok := mark.Gap(x.from, x.to); n != x.n || ok != x.ok {
			t.Errorf("Gap(%v, %v) = %d, %v", x.from, x.to, n, ok)
		}
	}
}

func TestNoGapAndNoOrderWithOtherNumbers(t *testing.T) {
	others := append(goodMarks(), badMarks()...)
	for _, bad := range badMarks() {
		for _, m := range others {
			for _, x := range [][2]complex128{{bad, m}, {m, bad}} {
				if n, ok := mark.Gap(x[0], x[1]); n != 0 || ok {
					t.Fatalf("Gap(%v, %v) = %d, %v", x[0], x[1], n, ok)
				}
				if mark.Later(x[0], x[1]) {
					t.Fatalf("Later(%v, %v)", x[0], x[1])
				}
			}
		}
	}
}

func TestLater(t *testing.T) {
	minus := math.Copysign(0, -1)
	for _, x := range []struct {
		a, b complex128
		is   bool
	}{
		{3, 2 + 9i, true}, {2 + 9i, 3, false}, {2 + 1i, 2, true}, {2, 2 + 1i, false},
		{2 + 1i, 2 + 1i, false}, {0, 0, false}, {1i, 0, true}, {1, complex(0, api.MaxMark), true},
		{3 + 1i, 2 + 1i, true}, {complex(0, minus), 0, false}, {0, complex(minus, minus), false},
		{complex(minus, 2), 1i, true}, {1i, complex(minus, 2), false},
		{complex(api.MaxMark, api.MaxMark), complex(api.MaxMark, api.MaxMark-1), true},
		{complex(api.MaxMark, 0), complex(api.MaxMark-1, api.MaxMark), true},
	} {
		if mark.Later(x.a, x.b) != x.is {
			t.Errorf("Later(%v, %v) is not %v", x.a, x.b, x.is)
		}
	}
}

// P1.4

func TestLast(t *testing.T) {
	for _, x := range []struct {
		ms   []complex128
		want complex128
		ok   bool
	}{
		{nil, 0, false}, {[]complex128{}, 0, false},
		{[]complex128{0}, 0, true}, {[]complex128{0.5, 0, -1}, 0, true},
		{[]complex128{1 + 7i, 0.5, 2}, 2, true}, {[]complex128{2, 0.5, 1 + 7i}, 2, true},
		{[]complex128{2 + 3i, 2 + 5i, 2 + 4i}, 2 + 5i, true}, {[]complex128{4i, 4i}, 4i, true},
		{[]complex128{1, complex(math.NaN(), 9), complex(math.Inf(1), 0), complex(api.MaxMark+1, 0)}, 1, true},
		{[]complex128{complex(api.MaxMark-1, api.MaxMark), complex(api.MaxMark, 0)}, complex(api.MaxMark, 0), true},
		{badMarks(), 0, false}, {append(badMarks(), 3+2i), 3 + 2i, true},
	} {
		if m, ok := mark.Last(x.ms...); m != x.want || ok != x.ok {
			t.Errorf("Last(%v) = %v, %v", x.ms, m, ok)
		}
	}
}

func TestSpan(t *testing.T) {
	for _, x := range []struct {
		ms   []complex128
		want complex128
	}{
		{nil, 0}, {[]complex128{}, 0}, {[]complex128{4 + 4i}, 0}, {badMarks(), 0},
		{[]complex128{1 + 7i, 3 + 2i}, 2 + 5i}, {[]complex128{3 + 2i, 1 + 7i}, 2 + 5i},
		{[]complex128{5 + 1i, 2 + 9i, 3 + 3i}, 3 + 8i}, {[]complex128{2 + 3i, 2 + 8i}, 5i},
		{[]complex128{2 + 3i, 6 + 3i}, 4}, {[]complex128{0, complex(api.MaxMark, api.MaxMark)}, complex(api.MaxMark, api.MaxMark)},
		{[]complex128{0.5, 4 + 4i, -1, 5 + 6i, complex(math.NaN(), 0)}, 1 + 2i},
		{append(badMarks(), 7+7i, 8+9i), 1 + 2i},
	} {
		if got := mark.Span(x.ms...); got != x.want {
			t.Errorf("Span(%v) = %v", x.ms, got)
		}
	}
}

func TestLastAndSpanLeaveTheirList(t *testing.T) {
	minus := math.Copysign(0, -1)
	ms := make([]complex128, 3, 5)
	copy(ms, []complex128{5 + 1i, complex(minus, 9), 0.5})
	copy(ms[3:5], []complex128{7, 8})
	mark.Last(ms...)
	mark.Span(ms...)
	if !slices.Equal(ms[:5], []complex128{5 + 1i, 9i, 0.5, 7, 8}) || !math.Signbit(real(ms[1])) {
		t.Errorf("the list has become %v", ms[:5])
	}
}

// P1.5

func TestLaterOrders(t *testing.T) {
	ms := goodMarks()
	for _, a := range ms {
		for _, b := range ms {
			ways := 0
			if mark.Later(a, b) {
				ways++
			}
			if mark.Later(b, a) {
				ways++
			}
			if a == b && ways != 0 || a != b && ways != 1 {
				t.Fatalf("%v and %v: %d are Later", a, b, ways)
			}
			for _, c := range ms {
				if mark.Later(a, b) && mark.Later(b, c) && !mark.Later(a, c) {
					t.Fatalf("Later does not go on: %v, %v, %v", a, b, c)
				}
			}
		}
	}
}

func TestStepsAreLater(t *testing.T) {
	for _, m := range goodMarks() {
		if n, e := mark.Next(m); e == api.OK {
			gap, ok := mark.Gap(m, n)
			if !mark.Later(n, m) || gap != 1 || !ok {
				t.Errorf("%v and the next one, %v: gap %d, %v", m, n, gap, ok)
			}
		} else if mark.Number(m) != api.MaxMark {
			t.Errorf("Next(%v): %d", m, e)
		}
		n, e := mark.Restart(m)
		if (e == api.OK) != (mark.Epoch(m) != api.MaxMark) {
			t.Errorf("Restart(%v): %d", m, e)
		}
		for _, number := range goodParts() {
			if old := complex(real(m), number); e == api.OK && !mark.Later(n, old) {
				t.Errorf("Restart(%v) = %v is not Later than %v", m, n, old)
			}
		}
	}
}

func TestGapsAddUp(t *testing.T) {
	ms := goodMarks()
	for _, a := range ms {
		for _, b := range ms {
			for _, c := range ms {
				first, one := mark.Gap(a, b)
				second, two := mark.Gap(b, c)
				if sum, ok := mark.Gap(a, c); one && two && (!ok || sum != first+second) {
					t.Fatalf("gaps of %v, %v, %v: %d, %d; in all %d, %v", a, b, c, first, second, sum, ok)
				}
			}
		}
	}
}

// orders are all orders of a list.
func orders(ms []complex128) [][]complex128 {
	if len(ms) == 0 {
		return [][]complex128{nil}
	}
	var all [][]complex128
	for i := range ms {
		rest := slices.Concat(ms[:i], ms[i+1:])
		for _, o := range orders(rest) {
			all = append(all, append([]complex128{ms[i]}, o...))
		}
	}
	return all
}

func TestOrderOfListIsNotTold(t *testing.T) {
	minus := math.Copysign(0, -1)
	for _, ms := range [][]complex128{
		{1 + 7i, 3 + 2i, 2 + 9i, 0.5, 3 + 1i},
		{0, complex(minus, 0), complex(0, minus), complex(minus, minus), -1},
		{complex(minus, 4), 4i, 1i, complex(math.NaN(), 1), complex(api.MaxMark+1, 1)},
		{0, complex(api.MaxMark, 0), complex(0, api.MaxMark), complex(api.MaxMark, api.MaxMark), 5 + 5i},
		{complex(math.Inf(1), 0), 0.5i, -1i},
	} {
		last, ok := mark.Last(ms...)
		span := mark.Span(ms...)
		for _, o := range orders(ms) {
			if m, found := mark.Last(o...); m != last || found != ok || hasMinus(m) {
				t.Errorf("Last(%v) = %v, %v, and of %v %v, %v", o, m, found, ms, last, ok)
			}
			if m := mark.Span(o...); m != span || hasMinus(m) {
				t.Errorf("Span(%v) = %v, and of %v %v", o, m, ms, span)
			}
		}
	}
}

func TestLastIsOneOfThem(t *testing.T) {
	ms := append(badMarks(), goodMarks()...)
	for n := range ms {
		last, ok := mark.Last(ms[:n+1]...)
		if ok != slices.ContainsFunc(ms[:n+1], mark.Good) {
			t.Fatalf("Last of %d: %v, %v", n+1, last, ok)
		}
		if ok && !slices.Contains(ms[:n+1], last) {
			t.Fatalf("Last of %d is none of them: %v", n+1, last)
		}
		for _, m := range ms[:n+1] {
			if mark.Later(m, last) {
				t.Fatalf("Last of %d is %v, and %v is Later", n+1, last, m)
			}
		}
	}
}

func TestSpanOfOneMark(t *testing.T) {
	for _, m := range append(goodMarks(), badMarks()...) {
		if got := mark.Span(m, m, m, m); got != 0 {
			t.Errorf("Span of %v, four times, is %v", m, got)
		}
		if got := mark.Span(m); got != 0 {
			t.Errorf("Span(%v) = %v", m, got)
		}
	}
}
