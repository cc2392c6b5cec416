package audit_test

import (
	"math"
	"slices"
	"testing"

	"vista/api"
	"vista/audit"
)

// sees is a sight; the version of its answer is one that nobody looks at.
func sees(client, life, version int, call api.Call, answer api.Answer) api.Sight {
	answer.Version = -5
	return api.Sight{Client: client, Life: life, Version: version, Call: call, Answer: answer}
}

// seen is a sight as the history has it.
func seen(t *testing.T, history []api.Op, client, life, version int, call api.Call) api.Sight {
	t.Helper()
	return sees(client, life, version, call, audit.Answer(at(t, history, version), call, 3))
}

// checks fails if Check answers anything else.
func checks(t *testing.T, history []api.Op, want int, sights ...api.Sight) {
	t.Helper()
	if got := audit.Check(history, sights, 3); got != want {
		t.Errorf("%v: Check is %d, not %d", sights, got, want)
	}
}

// P17.3, Check

func TestCheckOfTheExample(t *testing.T) {
	f := lookup("/a/f")
	two, one := sees(1, 1, 2, f, is(file(3, 1))), sees(1, 1, 1, f, fails(api.ErrNotFound))
	checks(t, example(), 1, two, one)
	one.Life = 2
	checks(t, example(), -1, two, one)
}

func TestNoSights(t *testing.T) {
	for _, history := range [][]api.Op{nil, {}, example(), {unlink(1, "a")}} {
		checks(t, history, -1)
		if got := audit.Check(history, []api.Sight{}, math.MinInt); got != -1 {
			t.Errorf("Check is %d", got)
		}
	}
}

func TestASightOfEachVersion(t *testing.T) {
	wants := []api.Answer{fails(api.ErrNotFound), fails(api.ErrNotFound), is(file(3, 1)), fails(api.ErrNotFound)}
	for version, want := range wants {
		checks(t, example(), -1, sees(1, 1, version, lookup("/a/f"), want))
		for _, other := range wants {
			if !audit.Same(want, other) {
				checks(t, example(), 0, sees(1, 1, version, lookup("/a/f"), other))
			}
		}
	}
	checks(t, nil, -1, sees(1, 1, 0, readdir("/"), lists()), sees(1, 1, 0, lookup("/"), is(root())))
}

func TestSightsOfVersionsThatAreNone(t *testing.T) {
	for _, version := range []int{-1, -2, 4, 5, math.MinInt, math.MaxInt, 1<<32 + 2, -1 << 32} {
		for _, answer := range []api.Answer{{}, is(file(3, 1)), fails(api.ErrNotFound), fails(api.ErrArg)} {
			wrong := sees(1, 1, version, lookup("/a/f"), answer)
			checks(t, example(), 0, wrong)
			checks(t, example(), 1, seen(t, example(), 1, 1, 0, readdir("/")), wrong)
			checks(t, example(), 1, seen(t, example(), 2, 1, 3, readdir("/")), wrong, seen(t, example(), 1, 1, 3, readdir("/")))
		}
	}
	checks(t, nil, 0, sees(1, 1, 1, lookup("/"), is(root())))
	checks(t, nil, 0, sees(1, 1, -1, lookup("/"), is(root())))
}

// Where an op is refused no version is left: ahead of it a sight is as good as ever.
func TestSightsBehindARefusedOp(t *testing.T) {
	history := []api.Op{mkdir(1, "a", 7), mkdir(1, "a", 7), mkdir(1, "b", 7)}
	zero, one := seen(t, history, 1, 1, 0, readdir("/")), seen(t, history, 1, 1, 1, readdir("/"))
	checks(t, history, -1, zero, one)
	for version := 2; version <= 3; version++ {
		for _, answer := range []api.Answer{lists("a"), lists("a", "b"), fails(api.ErrExist), {}} {
			checks(t, history, 2, zero, one, sees(1, 1, version, readdir("/"), answer))
			checks(t, history, 0, sees(2, 1, version, readdir("/"), answer), zero, one)
		}
	}
}

func TestVersionsOfOneLife(t *testing.T) {
	sight := func(client, life, version int) api.Sight {
		return seen(t, example(), client, life, version, lookup("/a/f"))
	}
	for _, c := range []struct {
		versions []int
		want     int
	}{
		{[]int{0, 1, 2, 3}, -1}, {[]int{0, 0, 0}, -1}, {[]int{1, 1, 3, 3}, -1}, {[]int{3, 3}, -1}, {[]int{0, 3}, -1},
		{[]int{1, 0}, 1}, {[]int{3, 2}, 1}, {[]int{0, 2, 1, 2}, 2}, {[]int{0, 2, 2, 1}, 3}, {[]int{3, 0, 1, 2, 3}, 1}, {[]int{1, 2, 3, 2, 1}, 3},
	} {
		var one, others []api.Sight
		for i, version := range c.versions {
			one = append(one, sight(1, 1, version))
			others = append(others, sight(1, 1-i, version))
		}
		checks(t, example(), c.want, one...)
		// Each in a life of its own, or a client of its own, they are right.
		checks(t, example(), -1, others...)
		for i := range others {
			others[i].Client, others[i].Life = -3+i, 1
		}
		checks(t, example(), -1, others...)
	}
}

// Other lives, and other clients, between do not hide that a version falls.
func TestLivesAndClientsBetween(t *testing.T) {
	sight := func(client, life, version int) api.Sight {
		return seen(t, example(), client, life, version, readdir("/"))
	}
	checks(t, example(), -1, sight(1, 1, 2), sight(1, 2, 1), sight(2, 1, 0), sight(1, 1, 2), sight(1, 2, 2), sight(2, 1, 3))
	checks(t, example(), 3, sight(1, 1, 2), sight(1, 2, 0), sight(2, 1, 1), sight(1, 1, 1))
	checks(t, example(), 4, sight(1, 1, 2), sight(1, 2, 1), sight(1, 1, 3), sight(2, 2, 0), sight(1, 2, 0))
	checks(t, example(), 3, sight(2, 1, 1), sight(1, 2, 0), sight(1, 1, 2), sight(2, 1, 0))
	// Client and life are two numbers, any that there are, and none is taken for the other.
	checks(t, example(), -1, sight(1, 2, 3), sight(2, 1, 0), sight(12, 0, 0), sight(0, 12, 0), sight(1, 3, 0), sight(3, 1, 0))
	for _, n := range []int{0, -1, math.MinInt, math.MaxInt, 1 << 32} {
		checks(t, example(), -1, sight(n, 1, 2), sight(1, n, 1), sight(n, n, 0), sight(n, 1, 2), sight(1, n, 1), sight(n, n, 0))
		checks(t, example(), 1, sight(n, n, 2), sight(n, n, 1))
		checks(t, example(), 2, sight(n, 1, 2), sight(1, n, 1), sight(n, 1, 1))
		checks(t, example(), 2, sight(n, 1, 2), sight(1, n, 1), sight(1, n, 0))
	}
}

// That the tree answers at another version, too, makes no difference to a version that falls.
func TestAVersionThatFallsWithTheSameAnswer(t *testing.T) {
	checks(t, example(), 1, seen(t, example(), 1, 1, 3, lookup("/a")), seen(t, example(), 1, 1, 1, lookup("/a")))
	checks(t, example(), -1, seen(t, example(), 1, 1, 1, lookup("/a")), seen(t, example(), 1, 1, 3, lookup("/a")))
}

// Each part of an answer is looked at, but its version.
func TestAnswersThatDiffer(t *testing.T) {
	history := []api.Op{mkdir(1, "a", 7), symlink(1, "l", "a"), create(2, "f", 1), create(2, "g", 2)}
	for _, call := range []api.Call{lookup("/a/f"), lookup("/l"), stat("/l"), stat("/x"), readlink("/l"), readlink("/a"), readdir("/a"), readdir("/l"), readdir("/a/f"), readdir("/"), lookup("no path"), {Kind: api.CallSync}} {
		right := seen(t, history, 1, 1, 4, call)
		for i, turn := range []func(*api.Answer){
			func(a *api.Answer) { a.Err++ },
			func(a *api.Answer) { a.Err-- },
			func(a *api.Answer) { a.Node.ID++ },
			func(a *api.Answer) { a.Node.Kind++ },
			func(a *api.Answer) { a.Node.Mode-- },
			func(a *api.Answer) { a.Node.Target += "/" },
			func(a *api.Answer) { a.Names = append(slices.Clone(a.Names), "z") },
			func(a *api.Answer) { a.Names = append([]string{"!"}, a.Names...) },
		} {
			wrong := right
			turn(&wrong.Answer)
			if got := audit.Check(history, []api.Sight{right, wrong, right}, 3); got != 1 {
				t.Errorf("%+v, turned %d: Check is %d", call, i, got)
			}
		}
		for _, version := range []int{0, 1, 4, 99, math.MinInt} {
			other := right
			other.Answer.Version = version
			checks(t, history, -1, right, other, right)
		}
	}
	checks(t, history, 0, sees(1, 1, 4, readdir("/a"), lists("g", "f")))
	checks(t, history, 0, sees(1, 1, 4, readdir("/a"), lists("f")))
	checks(t, history, 0, sees(1, 1, 4, readdir("/a"), lists()))
	checks(t, history, -1, sees(1, 1, 2, readdir("/a"), api.Answer{Names: []string{}}), sees(1, 1, 2, readdir("/a"), lists()))
}

// Of several wrong ones the first one is told, whatever is wrong with it, and whatever its version.
func TestSeveralWrongSights(t *testing.T) {
	right := seen(t, example(), 1, 1, 2, readdir("/a"))
	wrongs := []api.Sight{
		sees(1, 1, 9, readdir("/a"), lists()), sees(1, 1, -1, readdir("/a"), lists()), sees(2, 1, 9, readdir("/a"), lists()), sees(1, 1, 3, readdir("/a"), lists("x")),
		sees(2, 1, 0, readdir("/a"), lists("y")), seen(t, example(), 1, 1, 1, readdir("/a")), seen(t, example(), 1, 1, 0, lookup("/")), sees(1, 1, 2, lookup("/a"), fails(api.ErrBusy)),
	}
	for _, first := range wrongs {
		checks(t, example(), 1, right, first)
		for _, second := range wrongs {
			checks(t, example(), 1, right, first, second)
			checks(t, example(), 2, right, right, first, right, second)
		}
	}
}

// A wrong sight has its version all the same: what comes behind it has fallen.
func TestAWrongSightIsFoundFirst(t *testing.T) {
	checks(t, example(), 0, sees(1, 1, 3, lookup("/"), fails(api.ErrStale)), seen(t, example(), 1, 1, 1, lookup("/")))
	checks(t, example(), 0, sees(1, 1, 99, lookup("/"), is(root())), seen(t, example(), 1, 1, 1, lookup("/")))
}

// The limit of links holds for all sights.
func TestCheckWithLimitsOfLinks(t *testing.T) {
	history := []api.Op{mkdir(1, "a", 7), symlink(1, "l", "a"), symlink(1, "k", "l")}
	for links, most := range map[int]int{math.MinInt: 0, -1: 0, 0: 0, 1: 1, 2: 2, 3: 3, 8: 8, math.MaxInt: 8} {
		one, two := is(folder(2, 7)), is(folder(2, 7))
		if most < 1 {
			one = fails(api.ErrLoop)
		}
		if most < 2 {
			two = fails(api.ErrLoop)
		}
		if got := audit.Check(history, []api.Sight{sees(1, 1, 3, lookup("/l"), one), sees(1, 1, 3, lookup("/k"), two)}, links); got != -1 {
			t.Errorf("%d links: Check is %d", links, got)
		}
		if got := audit.Check(history, []api.Sight{sees(1, 1, 3, lookup("/l"), is(folder(2, 7))), sees(1, 1, 3, lookup("/k"), is(folder(2, 7)))}, links); got != []int{0, 1, -1}[min(most, 2)] {
			t.Errorf("%d links, all met: Check is %d", links, got)
		}
	}
}

// A sight of what is no read is held against ErrArg.
func TestSightsOfOtherCalls(t *testing.T) {
	for _, kind := range []int{0, -1, api.CallMkdir, api.CallSync, math.MaxInt} {
		call := api.Call{Kind: kind, Path: "/a", Mode: 1}
		checks(t, example(), -1, sees(1, 1, 3, call, fails(api.ErrArg)))
		checks(t, example(), 0, sees(1, 1, 3, call, api.Answer{}))
		checks(t, example(), 0, sees(1, 1, 4, call, fails(api.ErrArg)))
	}
}

// As many sights and versions as one likes: the trees are gone through once.
func TestManySightsOfALongHistory(t *testing.T) {
	history := long(3000)
	var sights []api.Sight
	x := at(t, history, 0)
	for version := range len(history) + 1 {
		for client := range 4 {
			call := []api.Call{readdir("/"), lookup("/d/f"), readdir("/d"), stat("/f")}[client]
			sights = append(sights, sees(client, 1, version, call, audit.Answer(x, call, 3)))
		}
		if version < len(history) {
			x.Apply(history[version])
		}
	}
	checks(t, history, -1, sights...)
	sights[len(sights)-2].Answer.Err++
	checks(t, history, len(sights)-2, sights...)
	sights[0].Version = 1
	checks(t, history, 0, sights...)
}
