package vow_test

import (
	"math"
	"slices"
	"strconv"
	"testing"

	"vista/api"
	"vista/vow"
)

func key(dir int, name string) api.Key {
	return api.Key{Dir: dir, Name: name}
}

// numbered are n keys, no two alike, that rise.
func numbered(n int) []api.Key {
	all := make([]api.Key, n)
	for i := range all {
		all[i] = key(1+i, "name")
	}
	return all
}

func broken(m complex128, version int, keys ...api.Key) api.Break {
	return api.Break{Mark: m, Version: version, Keys: keys}
}

func everything(m complex128, version int) api.Break {
	return api.Break{Mark: m, Version: version, All: true}
}

// alike tells whether two breaks say the same.
func alike(a, b api.Break) bool {
	return a.Mark == b.Mark && a.Version == b.Version && a.All == b.All && slices.Equal(a.Keys, b.Keys)
}

// table is a new table.
func table(t *testing.T, epoch, promises, queue int) *vow.Table {
	t.Helper()
	v, e := vow.New(epoch, promises, queue)
	if v == nil || e != api.OK {
		t.Fatalf("New(%d, %d, %d): %v, %d", epoch, promises, queue, v, e)
	}
	return v
}

// granted is a new table of epoch 1 in which keys were granted, one by one.
func granted(t *testing.T, promises, queue int, keys ...api.Key) *vow.Table {
	t.Helper()
	v := table(t, 1, promises, queue)
	for _, k := range keys {
		says(t, "Grant", v.Grant(k, 0))
	}
	return v
}

// says fails if breaks are others than these.
func says(t *testing.T, what string, got []api.Break, want ...api.Break) {
	t.Helper()
	if !slices.EqualFunc(got, want, alike) {
		t.Errorf("%s: breaks %v, not %v", what, got, want)
	}
}

// holds fails if just these keys are not promised, in this order.
func holds(t *testing.T, what string, v *vow.Table, want ...api.Key) {
	t.Helper()
	if got := v.Promises(); !slices.Equal(got, want) {
		t.Errorf("%s: promised %v, not %v", what, got, want)
	}
	for _, k := range want {
		if !v.Holds(k) {
			t.Errorf("%s: %v is not held", what, k)
		}
	}
}

// queues fails if a table has another mark or other breaks left.
func queues(t *testing.T, what string, v *vow.Table, m complex128, want ...api.Break) {
	t.Helper()
	if v.Mark() != m {
		t.Errorf("%s: mark %v, not %v", what, v.Mark(), m)
	}
	says(t, what+", queue", v.Queue(), want...)
}

// P8.1

func TestNew(t *testing.T) {
	for _, epoch := range []int{0, 1, 3, api.MaxMark - 1, api.MaxMark} {
		for _, promises := range []int{1, 2, api.MaxPromises} {
			for _, queue := range []int{1, 2, api.MaxQueue} {
				v := table(t, epoch, promises, queue)
				holds(t, "New", v)
				queues(t, "New", v, complex(float64(epoch), 0))
				if v.Holds(api.Key{}) || v.Holds(key(1, "")) || v.Holds(key(1, "a")) {
					t.Error("a new table holds a key")
				}
			}
		}
	}
}

func TestNewRefuses(t *testing.T) {
	for _, x := range [][3]int{
		{-1, 1, 1}, {api.MaxMark + 1, 1, 1}, {math.MinInt, 1, 1}, {math.MaxInt, 1, 1}, {1 << 60, 1, 1},
		{1, 0, 1}, {1, -1, 1}, {1, api.MaxPromises + 1, 1}, {1, math.MinInt, 1}, {1, math.MaxInt, 1},
		{1, 1, 0}, {1, 1, -1}, {1, 1, api.MaxQueue + 1}, {1, 1, math.MinInt}, {1, 1, math.MaxInt},
		{1, 1, api.MaxPromises}, {-1, 0, 0}, {1, 0, api.MaxQueue}, {1, api.MaxPromises, 0},
	} {
		if v, e := vow.New(x[0], x[1], x[2]); v != nil || e != api.ErrArg {
			t.Errorf("New(%d, %d, %d): %v, %d", x[0], x[1], x[2], v, e)
		}
	}
}

func TestHoldsJustThatKey(t *testing.T) {
	v := granted(t, 9, 9, key(1, "a"), key(2, ""), key(-3, "\xff/"))
	holds(t, "granted", v, key(1, "a"), key(2, ""), key(-3, "\xff/"))
	for _, k := range []api.Key{key(1, ""), key(1, "b"), key(1, "A"), key(1, "a "), key(2, "a"), key(0, ""), key(3, "\xff/"), key(-3, "\xff"), {}} {
		if v.Holds(k) {
			t.Errorf("%v is held", k)
		}
	}
}

func TestTheExample(t *testing.T) {
	v := table(t, 3, 1, 2)
	says(t, "Grant {1 a}", v.Grant(key(1, "a"), 5))
	holds(t, "Grant {1 a}", v, key(1, "a"))
	says(t, "Grant {1 b}", v.Grant(key(1, "b"), 6), broken(3+1i, 6, key(1, "a")))
	holds(t, "Grant {1 b}", v, key(1, "b"))
	says(t, "Touch {1 a} {1 c}", v.Touch([]api.Key{key(1, "a"), key(1, "c")}, 7))
	says(t, "Touch {1 b}", v.Touch([]api.Key{key(1, "b")}, 8), broken(3+2i, 8, key(1, "b")))
	holds(t, "Touch {1 b}", v)
	queues(t, "Touch {1 b}", v, 3+2i, broken(3+1i, 6, key(1, "a")), broken(3+2i, 8, key(1, "b")))
	says(t, "Grant {1 }", v.Grant(key(1, ""), 8))
	says(t, "Touch {1 x}", v.Touch([]api.Key{key(1, "x")}, 9), everything(3+3i, 9))
	holds(t, "Touch {1 x}", v)
	queues(t, "Touch {1 x}", v, 3+3i, everything(3+3i, 9))
	if !v.Ack(3 + 3i) {
		t.Error("Ack 3+3i")
	}
	queues(t, "Ack", v, 3+3i)
	if v.Ack(3+4i) || v.Ack(2+1i) {
		t.Error("Ack of 3+4i, or of 2+1i")
	}
	queues(t, "Ack", v, 3+3i)
}

// P8.2

// fills makes n breaks, by Touch, at the versions from 1 on, and answers them; nothing is promised behind it.
func fills(t *testing.T, v *vow.Table, n int) []api.Break {
	t.Helper()
	var made []api.Break
	for i := range n {
		v.Grant(key(7, "fill"), 0)
		made = append(made, broken(complex(1, float64(i+1)), i+1, key(7, "fill")))
		says(t, "fill "+strconv.Itoa(i), v.Touch([]api.Key{key(7, "fill")}, i+1), made[i])
	}
	holds(t, "filled", v)
	queues(t, "filled", v, complex(1, float64(n)), made...)
	return made
}

func TestTheQueueIsFull(t *testing.T) {
	for queue := 1; queue <= api.MaxQueue; queue++ {
		last := complex(1, float64(queue+1))

		v := table(t, 1, 3, queue)
		fills(t, v, queue)
		v.Grant(key(1, "a"), 0)
		v.Grant(key(1, "b"), 0)
		says(t, "one more, by a Touch", v.Touch([]api.Key{key(1, "a")}, 50), everything(last, 50))
		holds(t, "one more, by a Touch", v)
		queues(t, "one more, by a Touch", v, last, everything(last, 50))

		v = table(t, 1, 2, queue)
		fills(t, v, queue)
		v.Grant(key(1, "a"), 0)
		v.Grant(key(1, "b"), 0)
		says(t, "one more, by a Grant", v.Grant(key(1, "c"), 60), everything(last, 60))
		holds(t, "one more, by a Grant", v)
		queues(t, "one more, by a Grant", v, last, everything(last, 60))
	}
}

func TestBehindEverything(t *testing.T) {
	for queue := 1; queue <= api.MaxQueue; queue++ {
		v := table(t, 1, 1, queue)
		fills(t, v, queue)
		v.Grant(key(1, "a"), 0)
		m := complex(1, float64(queue+1))
		made := []api.Break{everything(m, 1)}
		says(t, "All", v.Grant(key(1, "b"), 1), made...)
		says(t, "a Touch behind it", v.Touch([]api.Key{key(1, "a"), key(1, "b")}, 2))
		queues(t, "a Touch behind it", v, m, made...)
		says(t, "a Grant behind it", v.Grant(key(1, "c"), 3))
		holds(t, "a Grant behind it", v, key(1, "c"))

		// It is one break of the queue as any other: there is room for the rest.
		for i := 2; i <= queue; i++ {
			m += 1i
			made = append(made, broken(m, i, key(1, "c")))
			says(t, "a break behind it", v.Touch([]api.Key{key(1, "c")}, i), made[i-1])
			says(t, "a Grant behind it", v.Grant(key(1, "c"), i))
		}
		queues(t, "full behind it", v, m, made...)
		m += 1i
		says(t, "All again", v.Touch([]api.Key{key(1, "c")}, 70), everything(m, 70))
		queues(t, "All again", v, m, everything(m, 70))
		holds(t, "All again", v)
		if !v.Ack(m-1i) || v.Ack(m+1i) {
			t.Error("Ack")
		}
		queues(t, "an Ack ahead of it", v, m, everything(m, 70))
		if !v.Ack(m) {
			t.Error("Ack")
		}
		queues(t, "an Ack of it", v, m)
	}
}

func TestTheLastMark(t *testing.T) {
	v := table(t, 1, 1, 2)
	v.SetMark(complex(1, api.MaxMark-1))
	last := complex(1, api.MaxMark)
	v.Grant(key(1, "a"), 0)
	says(t, "to the last mark", v.Grant(key(1, "b"), 4), broken(last, 4, key(1, "a")))
	queues(t, "to the last mark", v, last, broken(last, 4, key(1, "a")))
	holds(t, "to the last mark", v, key(1, "b"))

	// What asks for no break goes on.
	says(t, "of none", v.Touch([]api.Key{key(1, "a")}, 5))
	says(t, "once more", v.Grant(key(1, "b"), 5))
	holds(t, "once more", v, key(1, "b"))
}

func TestNoNextMark(t *testing.T) {
	last := complex(1, api.MaxMark)
	for queue := range 3 {
		for _, byGrant := range []bool{true, false} {
			v := table(t, 1, 2, max(queue, 1))
			made := fills(t, v, queue)
			v.SetMark(last)
			// As often as one likes, and with a full queue too.
			for range 3 {
				says(t, "Grant", v.Grant(key(1, "a"), 5))
				says(t, "Grant", v.Grant(key(1, "b"), 5))
				holds(t, "Grant", v, key(1, "a"), key(1, "b"))
				if byGrant {
					says(t, "no next mark", v.Grant(key(1, "c"), 6))
				} else {
					says(t, "no next mark", v.Touch([]api.Key{key(1, "b")}, 6))
				}
				holds(t, "no next mark", v)
				queues(t, "no next mark", v, last, made...)
			}
			if !v.Ack(last) {
				t.Error("Ack")
			}
			queues(t, "Ack", v, last)
		}
	}
}

func TestVersionsAreTakenAsTheyAre(t *testing.T) {
	v := table(t, 0, 1, api.MaxQueue)
	for i, version := range []int{0, 5, 5, 3, -1, math.MinInt, math.MaxInt} {
		m := complex(0, float64(2*i+1))
		v.Grant(key(1, "a"), 0)
		says(t, "Grant", v.Grant(key(1, "b"), version), broken(m, version, key(1, "a")))
		says(t, "Touch", v.Touch([]api.Key{key(1, "b")}, version), broken(m+1i, version, key(1, "b")))
	}
}

// P8.3

func TestGrantAgain(t *testing.T) {
	v := granted(t, 3, 1, key(1, "a"), key(1, "b"), key(1, ""))
	holds(t, "granted", v, key(1, "a"), key(1, "b"), key(1, ""))
	says(t, "the first one", v.Grant(key(1, "a"), 9))
	holds(t, "the first one", v, key(1, "b"), key(1, ""), key(1, "a"))
	says(t, "the last one", v.Grant(key(1, "a"), 9))
	holds(t, "the last one", v, key(1, "b"), key(1, ""), key(1, "a"))
	says(t, "the middle one", v.Grant(key(1, ""), 9))
	holds(t, "the middle one", v, key(1, "b"), key(1, "a"), key(1, ""))
	queues(t, "no breaks", v, 1)
	says(t, "one more", v.Grant(key(1, "c"), 9), broken(1+1i, 9, key(1, "b")))
	holds(t, "one more", v, key(1, "a"), key(1, ""), key(1, "c"))
}

func TestOneMoreThanPromises(t *testing.T) {
	for promises := 1; promises <= api.MaxPromises; promises++ {
		keys := numbered(2*promises + 1)
		v := granted(t, promises, api.MaxQueue, keys[:promises]...)
		holds(t, "just so many", v, keys[:promises]...)
		queues(t, "just so many", v, 1)
		for i := range promises + 1 {
			m := complex(1, float64(i+1))
			says(t, "one more", v.Grant(keys[promises+i], i), broken(m, i, keys[i]))
			if v.Holds(keys[i]) {
				t.Errorf("%v is held", keys[i])
			}
			holds(t, "one more", v, keys[i+1:i+1+promises]...)
			v.Ack(m)
		}
	}
}

func TestUsesMakeTheOrder(t *testing.T) {
	keys := numbered(5)
	v := granted(t, 4, 9, keys[:4]...)
	v.Grant(keys[0], 0)
	v.Grant(keys[2], 0)
	// To ask is no use.
	v.Holds(keys[1])
	v.Promises()
	v.Touch([]api.Key{key(99, "x")}, 0)
	holds(t, "used", v, keys[1], keys[3], keys[0], keys[2])
	says(t, "one more", v.Grant(keys[4], 7), broken(1+1i, 7, keys[1]))
	says(t, "one more", v.Grant(keys[1], 8), broken(1+2i, 8, keys[3]))
	says(t, "one more", v.Grant(keys[3], 9), broken(1+3i, 9, keys[0]))
	holds(t, "one more", v, keys[2], keys[4], keys[1], keys[3])
}

func TestGrantOfADirectory(t *testing.T) {
	// Whatever promises there are of its names: they are keys of their own.
	v := granted(t, 2, 9, key(1, "a"), key(1, ""))
	says(t, "a name", v.Grant(key(1, "b"), 3), broken(1+1i, 3, key(1, "a")))
	holds(t, "a name", v, key(1, ""), key(1, "b"))
	says(t, "another name", v.Grant(key(1, "c"), 4), broken(1+2i, 4, key(1, "")))
	holds(t, "another name", v, key(1, "b"), key(1, "c"))
	says(t, "the directory", v.Grant(key(1, ""), 5), broken(1+3i, 5, key(1, "b")))
	holds(t, "the directory", v, key(1, "c"), key(1, ""))
}

// P8.4

func TestTouchOfNone(t *testing.T) {
	v := granted(t, 9, 1, key(1, "b"), key(2, ""), key(1, "a"))
	for _, keys := range [][]api.Key{
		nil, {}, {key(1, "")}, {key(1, "c"), key(1, "")}, {key(3, "a"), key(3, "")}, {{}}, {key(0, "a"), key(-2, "a"), key(1, "A")},
	} {
		says(t, "Touch", v.Touch(keys, 5))
		holds(t, "Touch", v, key(1, "b"), key(2, ""), key(1, "a"))
		queues(t, "Touch", v, 1)
	}
}

func TestTouchTellsRisingKeysOnce(t *testing.T) {
	want := []api.Key{key(-1, "z"), key(0, ""), key(1, "B"), key(1, "a"), key(1, "aa"), key(1, "\xff"), key(2, "a"), key(10, "")}
	orders := [][]int{{0, 1, 2, 3, 4, 5, 6, 7}, {7, 6, 5, 4, 3, 2, 1, 0}, {3, 3, 3, 0, 7, 1, 6, 6, 2, 5, 4, 0}, {4, 0, 4, 1, 5, 2, 6, 3, 7, 4, 7}}
	for _, order := range orders {
		v := granted(t, 9, 9, key(5, "other"))
		var keys []api.Key
		for _, i := range order {
			v.Grant(want[i], 0)
			keys = append(keys, want[i], key(5, "not promised"))
		}
		says(t, "Touch", v.Touch(keys, 7), broken(1+1i, 7, want...))
		holds(t, "Touch", v, key(5, "other"))
		queues(t, "Touch", v, 1+1i, broken(1+1i, 7, want...))
	}
}

func TestTouchInAPromisedDirectory(t *testing.T) {
	v := granted(t, 9, 9, key(1, ""), key(2, "a"), key(1, "a"), key(1, "b"))
	says(t, "a name that is not promised", v.Touch([]api.Key{key(1, "x"), key(2, "x")}, 1), broken(1+1i, 1, key(1, "x")))
	holds(t, "a name that is not promised", v, key(1, ""), key(2, "a"), key(1, "a"), key(1, "b"))
	says(t, "one that is", v.Touch([]api.Key{key(1, "a")}, 2), broken(1+2i, 2, key(1, "a")))
	holds(t, "one that is", v, key(1, ""), key(2, "a"), key(1, "b"))
	says(t, "both", v.Touch([]api.Key{key(1, "x"), key(1, "b"), key(1, "x"), key(1, "a")}, 3), broken(1+3i, 3, key(1, "a"), key(1, "b"), key(1, "x")))
	holds(t, "both", v, key(1, ""), key(2, "a"))
	says(t, "again", v.Touch([]api.Key{key(1, "b")}, 4), broken(1+4i, 4, key(1, "b")))
	holds(t, "again", v, key(1, ""), key(2, "a"))
}

func TestTouchOfADirectory(t *testing.T) {
	v := granted(t, 9, 9, key(1, "a"), key(1, ""), key(2, ""))
	says(t, "the directory", v.Touch([]api.Key{key(1, "")}, 1), broken(1+1i, 1, key(1, "")))
	holds(t, "the directory", v, key(1, "a"), key(2, ""))
	says(t, "it is gone", v.Touch([]api.Key{key(1, ""), key(1, "x")}, 2))
	holds(t, "it is gone", v, key(1, "a"), key(2, ""))

	// With names of it, on both its sides: they are told by the promise that goes.
	for _, keys := range [][]api.Key{
		{key(2, ""), key(2, "x"), key(2, "y")}, {key(2, "y"), key(2, "x"), key(2, "")}, {key(2, "x"), key(2, ""), key(2, "y"), key(2, "")},
	} {
		v := granted(t, 9, 9, key(2, "y"), key(2, ""), key(2, "z"))
		says(t, "with names", v.Touch(keys, 3), broken(1+1i, 3, key(2, ""), key(2, "x"), key(2, "y")))
		holds(t, "with names", v, key(2, "z"))
	}
}

func TestTouchOfMany(t *testing.T) {
	v := granted(t, api.MaxPromises, 1, numbered(api.MaxPromises)...)
	keys := numbered(3000)
	slices.Reverse(keys)
	says(t, "many", v.Touch(keys, 3), broken(1+1i, 3, numbered(api.MaxPromises)...))
	holds(t, "many", v)

	// More of them than are promised, by one promise.
	v = granted(t, 1, 1, key(1, ""))
	for i := range keys {
		keys[i] = key(1, string([]byte{'a', byte((2999 - i) >> 8), byte(2999 - i)}))
	}
	want := slices.Clone(keys)
	slices.Reverse(want)
	says(t, "many names", v.Touch(append(keys, keys...), 3), broken(1+1i, 3, want...))
	holds(t, "many names", v, key(1, ""))
}

// P8.5

func TestAck(t *testing.T) {
	for n := range 10 {
		for number := range n + 1 {
			v := table(t, 1, 3, 9)
			made := fills(t, v, n)
			v.Grant(key(1, "a"), 0)
			if !v.Ack(complex(1, float64(number))) {
				t.Errorf("Ack of number %d of %d", number, n)
			}
			m := complex(1, float64(n))
			queues(t, "Ack", v, m, made[number:]...)
			holds(t, "Ack", v, key(1, "a"))
			// Of what is gone, and of 0.
			for lower := range number + 1 {
				if !v.Ack(complex(1, float64(lower))) {
					t.Errorf("Ack of number %d behind one of %d", lower, number)
				}
				queues(t, "a lower Ack", v, m, made[number:]...)
			}
		}
	}
}

func TestAckMakesRoom(t *testing.T) {
	v := table(t, 1, 3, 2)
	made := fills(t, v, 2)
	v.Ack(1 + 1i)
	v.Grant(key(1, "a"), 0)
	v.Grant(key(1, "b"), 0)
	third := broken(1+3i, 8, key(1, "a"))
	says(t, "a third one", v.Touch([]api.Key{key(1, "a")}, 8), third)
	queues(t, "a third one", v, 1+3i, made[1], third)
	holds(t, "a third one", v, key(1, "b"))
	says(t, "a fourth one", v.Touch([]api.Key{key(1, "b")}, 9), everything(1+4i, 9))
	queues(t, "a fourth one", v, 1+4i, everything(1+4i, 9))
}

func TestAckRefuses(t *testing.T) {
	nan, inf, great := math.NaN(), math.Inf(1), float64(api.MaxMark)
	v := table(t, 1, 3, 9)
	made := fills(t, v, 3)
	v.Grant(key(1, "a"), 0)
	for _, m := range []complex128{
		1 + 4i, 1 + 5i, complex(1, great), 1i, 3i, 0, 2, 2 + 1i, 2 + 3i, complex(great, 1),
		1 + 0.5i, 1 + 2.5i, 1.5 + 1i, 0.5 + 1i, 1 - 1i, -1 + 1i, 1 + 1e-300i,
		complex(nan, 1), complex(1, nan), complex(nan, nan), complex(inf, 1), complex(1, inf), complex(1, -inf), complex(-inf, 1),
		complex(1, great+1), complex(great+1, 1), complex(1, math.MaxFloat64), complex(1, -math.MaxFloat64),
	} {
		if v.Ack(m) {
			t.Errorf("Ack(%v) is true", m)
		}
		queues(t, "Ack", v, 1+3i, made...)
		holds(t, "Ack", v, key(1, "a"))
	}
	if !v.Ack(1 + 2i) {
		t.Error("Ack 1+2i")
	}
	queues(t, "Ack", v, 1+3i, made[2])
}

func TestAckOfANewTable(t *testing.T) {
	minus := math.Copysign(0, -1)
	v := table(t, 0, 1, 1)
	for _, m := range []complex128{0, complex(minus, 0), complex(0, minus), complex(minus, minus)} {
		if !v.Ack(m) {
			t.Errorf("Ack(%v)", m)
		}
	}
	if v.Ack(1i) || v.Ack(1) {
		t.Error("Ack of a break that was not made")
	}
	v.Grant(key(1, "a"), 0)
	v.Grant(key(1, "b"), 1)
	if !v.Ack(complex(minus, 0)) {
		t.Error("Ack(-0)")
	}
	queues(t, "Ack(-0)", v, 1i, broken(1i, 1, key(1, "a")))
	if !v.Ack(complex(minus, 1)) {
		t.Error("Ack(-0+1i)")
	}
	queues(t, "Ack(-0+1i)", v, 1i)
}
