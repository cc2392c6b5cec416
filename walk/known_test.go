package walk_test

import (
	"math"
	"testing"

	"vista/api"
	"vista/walk"
)

// P14.1: what is known

// What a key is may be told by a fresh entry, by the cache, by a directory that is whole, or by nothing.
func TestWhoKnows(t *testing.T) {
	d, x := key(1, "d"), key(2, "x")
	below := []api.Entry{folder(1, "d", 2)}
	one, other := file(2, "x", 8), file(2, "x", 9)
	for i, row := range []struct {
		fresh, cached []api.Entry
		whole         []int
		want          api.Out
	}{
		{nil, nil, nil, needs(x, d)},
		{nil, nil, []int{1}, needs(x, d)},
		{nil, nil, []int{2}, fails(api.ErrNotFound, d, x)},
		{nil, []api.Entry{one}, nil, finds(one.Node, d, x)},
		{nil, []api.Entry{one}, []int{2}, finds(one.Node, d, x)},
		{nil, []api.Entry{none(2, "x")}, nil, fails(api.ErrNotFound, d, x)},
		{nil, []api.Entry{none(2, "x")}, []int{2}, fails(api.ErrNotFound, d, x)},
		{[]api.Entry{one}, nil, nil, finds(one.Node, d, x)},
		{[]api.Entry{one}, nil, []int{2}, finds(one.Node, d, x)},
		{[]api.Entry{one}, []api.Entry{other}, nil, finds(one.Node, d, x)},
		{[]api.Entry{one}, []api.Entry{none(2, "x")}, nil, finds(one.Node, d, x)},
		{[]api.Entry{none(2, "x")}, nil, nil, fails(api.ErrNotFound, d, x)},
		{[]api.Entry{none(2, "x")}, []api.Entry{one}, nil, fails(api.ErrNotFound, d, x)},
		// The first of two.
		{[]api.Entry{one, other}, nil, nil, finds(one.Node, d, x)},
		{[]api.Entry{other, one}, []api.Entry{one}, nil, finds(other.Node, d, x)},
		{[]api.Entry{none(2, "x"), one}, []api.Entry{one}, nil, fails(api.ErrNotFound, d, x)},
		{[]api.Entry{one, none(2, "x")}, nil, []int{2}, finds(one.Node, d, x)},
		// Others are nothing to it.
		{[]api.Entry{file(1, "x", 8), none(2, "X"), file(2, "", 8), file(3, "x", 8)}, nil, nil, needs(x, d)},
		{nil, []api.Entry{file(1, "x", 8), none(2, "X"), file(2, "xx", 8), file(3, "x", 8)}, nil, needs(x, d)},
		{[]api.Entry{file(2, "y", 8), one, file(2, "x", 7)}, []api.Entry{other, file(2, "y", 8)}, nil, finds(one.Node, d, x)},
	} {
		c := set(cache(append(row.cached, below...)...), row.whole...)
		for _, follow := range []bool{false, true} {
			if got := walk.Walk(c, row.fresh, "/d/x", follow, 3); !same(got, row.want) {
				t.Errorf("row %d: %+v, not %+v", i, got, row.want)
			}
			// The directory itself may be known from either, too.
			c := set(cache(row.cached...), row.whole...)
			want := row.want
			if len(row.whole) > 0 && row.whole[0] == 1 {
				want = fails(api.ErrNotFound, d)
			} else {
				comes(t, "fresh", walk.Walk(c, append(below, row.fresh...), "/d/x", follow, 3), want)
				comes(t, "fresh", walk.Walk(c, append(row.fresh[:len(row.fresh):len(row.fresh)], below...), "/d/x", follow, 3), want)
				want = needs(d)
			}
			comes(t, "without it", walk.Walk(c, row.fresh, "/d/x", follow, 3), want)
		}
	}
}

// A Neg entry with a node says nothing of that node.
func TestNegWithANode(t *testing.T) {
	for _, odd := range []api.Entry{folder(1, "x", 2), file(1, "x", 2), link(1, "x", 2, "/"), link(1, "x", 2, "")} {
		odd.Neg = true
		for _, path := range []string{"/x", "/x/", "/x/y", "/x/..", "/./x"} {
			want := walked{path, false, 0, fails(api.ErrNotFound, key(1, "x"))}
			both(t, cache(odd), nil, want)
			both(t, cache(), []api.Entry{odd}, want)
			both(t, cache(file(1, "x", 3)), []api.Entry{odd, file(1, "x", 3)}, want)
		}
	}
}

// What is known ahead counts where it is asked again: the way down, up, and down.
func TestKnownAlongTheWay(t *testing.T) {
	a, b := key(1, "a"), key(2, "b")
	c := cache(folder(1, "a", 2))
	fresh := []api.Entry{folder(2, "b", 3)}
	both(t, c, fresh,
		walked{"/a/b", false, 0, finds(folder(2, "b", 3).Node, a, b)},
		walked{"/a/b/c", false, 0, needs(key(3, "c"), a, b)},
		walked{"/a/b/../b/./../../a", false, 0, finds(folder(1, "a", 2).Node, a, b, b, a)},
		walked{"/b", false, 0, needs(key(1, "b"))},
		walked{"/a/a", false, 0, needs(key(2, "a"), a)},
	)
	set(c, 3)
	both(t, c, fresh, walked{"/a/b/c", false, 0, fails(api.ErrNotFound, a, b, key(3, "c"))}, walked{"/a/c", false, 0, needs(key(2, "c"), a)})
	set(c, 1)
	both(t, c, fresh, walked{"/b", false, 0, fails(api.ErrNotFound, key(1, "b"))}, walked{"/a/b", false, 0, finds(folder(2, "b", 3).Node, a, b)})
}

// A directory that was whole and is so no more says nothing of its names.
func TestWholeNoMore(t *testing.T) {
	c := set(cache(file(1, "f", 3)), 1)
	both(t, c, nil, walked{"/x", false, 0, fails(api.ErrNotFound, key(1, "x"))})
	c.Cut([]api.Key{key(1, "y")})
	both(t, c, nil, walked{"/x", false, 0, needs(key(1, "x"))}, walked{"/f", false, 0, finds(file(1, "f", 3).Node, key(1, "f"))})
	c.Evict(key(1, "f"))
	both(t, c, nil, walked{"/f", false, 0, needs(key(1, "f"))})
	c.Clear()
	both(t, set(c, 2), nil, walked{"/f", false, 0, needs(key(1, "f"))})
}

// R5, R6: ids may be any numbers, names any texts, of the kinds but KindDir and KindLink none is another thing than a file.
func TestAnyNumberAndText(t *testing.T) {
	d := key(1, "d")
	for _, id := range []int{math.MinInt, -1, 0, 1, 2, math.MaxInt} {
		c := cache(folder(1, "d", id))
		for _, called := range []string{"a", "\xff", "\xc3", "A", "...", ". ", "\\"} {
			k := key(id, called)
			fresh := []api.Entry{file(id, called, -5)}
			both(t, c, nil, walked{"/d/" + called, false, 3, needs(k, d)})
			both(t, c, fresh, walked{"/d/" + called, false, 3, finds(fresh[0].Node, d, k)})
			both(t, set(cache(folder(1, "d", id), none(1, "z")), id), nil, walked{"/d/" + called, false, 3, fails(api.ErrNotFound, d, k)})
		}
		for _, kind := range []int{math.MinInt, -1, 0, api.KindFile, 4, math.MaxInt} {
			odd := api.Entry{Key: key(1, "o"), Node: api.Node{ID: id, Kind: kind, Mode: -id, Target: "/d"}}
			both(t, cache(odd), nil,
				walked{"/o", false, 3, finds(odd.Node, odd.Key)},
				walked{"/o/", false, 3, fails(api.ErrNotDir, odd.Key)},
				walked{"/o/.", false, 3, fails(api.ErrNotDir, odd.Key)},
				walked{"/o/x", false, 3, fails(api.ErrNotDir, odd.Key)})
		}
	}
}

// Components that are no names are looked up as they are.
func TestStepsOfNoNames(t *testing.T) {
	long := "a name that is longer than any in a tree may be"
	for _, called := range []string{"", "/", "a/b", "/a", "a/", "\x00", "./", "../", "...", long} {
		k := key(1, called)
		for _, dir := range []bool{false, true} {
			for _, follow := range []bool{false, true} {
				steps := []string{called}
				comes(t, called, walk.Steps(cache(), nil, steps, dir, follow, 3), needs(k))
				comes(t, called, walk.Steps(set(cache(), 1), nil, steps, dir, follow, 3), fails(api.ErrNotFound, k))
				fresh := []api.Entry{folder(1, called, 7)}
				comes(t, called, walk.Steps(cache(), fresh, steps, dir, follow, 3), finds(fresh[0].Node, k))
				comes(t, called, walk.Steps(cache(), fresh, []string{called, "..", called}, dir, follow, 3), finds(fresh[0].Node, k, k))
				comes(t, called, walk.Steps(cache(), fresh, []string{called, called}, dir, follow, 3), needs(key(7, called), k))
			}
		}
	}
}
