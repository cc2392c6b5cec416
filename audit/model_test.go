package audit_test

import (
	"math"
	"math/rand"
	"reflect"
	"slices"
	"strings"
	"testing"

	"vista/api"
	"vista/audit"
	"vista/dent"
	"vista/tree"
	"vista/walk"
)

// walked is the walk of layer 14, to which each key that it wants is told as the tree has it.
func walked(x *tree.Tree, path string, follow bool, links int) api.Out {
	c := dent.New()
	for range 1000 {
		out := walk.Walk(c, nil, path, follow, links)
		if !out.Need {
			return out
		}
		e, _ := x.Look(out.Key.Dir, out.Key.Name)
		c.Put(e)
	}
	panic("it wants a thousand keys")
}

// modelled is what the chapter says of an answer.
func modelled(x *tree.Tree, call api.Call, links int) api.Answer {
	if !slices.Contains(readKinds(), call.Kind) {
		return api.Answer{Err: api.ErrArg, Version: x.Version()}
	}
	out := walked(x, call.Path, call.Kind == api.CallLookup || call.Kind == api.CallReaddir, links)
	a := api.Answer{Err: out.Err, Version: x.Version()}
	switch {
	case out.Err != api.OK:
	case call.Kind == api.CallReadlink && out.Node.Kind != api.KindLink:
		a.Err = api.ErrNotLink
	case call.Kind != api.CallReaddir:
		a.Node = out.Node
	case out.Node.Kind != api.KindDir:
		a.Err = api.ErrNotDir
	default:
		for _, e := range x.Dump() {
			if e.Key.Dir == out.Node.ID {
				a.Names = append(a.Names, e.Key.Name)
			}
		}
	}
	return a
}

// modelledAt is what the chapter says of a tree.
func modelledAt(history []api.Op, version int) (*tree.Tree, api.Errno) {
	if version < 0 || version > len(history) {
		return nil, api.ErrArg
	}
	x := tree.New()
	for i := range version {
		if _, _, e := x.Apply(history[i]); e != api.OK {
			return nil, e
		}
	}
	return x, api.OK
}

// isWrong is what the chapter says of the sight i.
func isWrong(history []api.Op, sights []api.Sight, i, links int) bool {
	s := sights[i]
	x, e := modelledAt(history, s.Version)
	if e != api.OK {
		return true
	}
	for _, other := range sights[:i] {
		if other.Client == s.Client && other.Life == s.Life && other.Version > s.Version {
			return true
		}
	}
	a, b := plain(s.Answer), plain(modelled(x, s.Call, links))
	a.Version, b.Version = 0, 0
	return !reflect.DeepEqual(a, b)
}

// modelledCheck is what the chapter says of sights.
func modelledCheck(history []api.Op, sights []api.Sight, links int) int {
	for i := range sights {
		if isWrong(history, sights, i, links) {
			return i
		}
	}
	return -1
}

// holds fails if At and Answer are not as the chapter says.
func holds(t *testing.T, history []api.Op, version int, calls []api.Call, links int) {
	t.Helper()
	want, wantErr := modelledAt(history, version)
	x, e := audit.At(history, version)
	if e != wantErr || (x == nil) != (want == nil) {
		t.Fatalf("At(%v, %d): %v, %d, not %d", history, version, x, e, wantErr)
	}
	if x == nil {
		return
	}
	like(t, x, want)
	for _, call := range calls {
		answers(t, x, call, links, modelled(want, call, links))
	}
	like(t, x, want)
}

// shortReads are all reads of paths of up to two components.
func shortReads() []api.Call {
	paths := []string{"/"}
	parts := []string{"/a", "/b", "/.", "/.."}
	for _, first := range parts {
		paths = append(paths, first, first+"/")
		for _, second := range parts {
			paths = append(paths, first+second, first+second+"/")
		}
	}
	var calls []api.Call
	for _, path := range paths {
		for _, kind := range readKinds() {
			calls = append(calls, reads(kind, path))
		}
	}
	return calls
}

// All histories of three ops, out of these.
func TestAllSmallHistories(t *testing.T) {
	ops := []api.Op{
		mkdir(1, "a", 7), create(1, "b", 1), symlink(1, "b", "a"), symlink(1, "a", "b/"), symlink(2, "b", "../a"), create(2, "a", 3), mkdir(2, "b", 5),
		symlink(1, "b", "/a/b"), symlink(2, "a", ".."), rename(1, "a", 1, "b"), unlink(1, "b"), rename(2, "b", 1, "b"), setattr(1, "a", 2),
	}
	calls := shortReads()
	for script := range len(ops) * len(ops) * len(ops) {
		history := []api.Op{ops[script%len(ops)], ops[script/len(ops)%len(ops)], ops[script/len(ops)/len(ops)]}
		for version := -1; version <= 2; version++ {
			holds(t, history, version, nil, 3)
		}
		holds(t, history, 3, calls, script%4)
		holds(t, history, 4, nil, 3)
		if t.Failed() {
			t.Fatalf("at %v", history)
		}
	}
}

// anyName is a made-up one of few.
func anyName(r *rand.Rand) string {
	return []string{"a", "b", "c", "a", "b", "c", "d", "\xff"}[r.Intn(8)]
}

// anyPath is a made-up one, of up to so many components.
func anyPath(r *rand.Rand, most int) string {
	if r.Intn(40) == 0 {
		return []string{"", "a", "/abcdefghijklm", "/a/\x00", strings.Repeat("/a", 49), "/...", "//"}[r.Intn(7)]
	}
	path := ""
	for range r.Intn(most + 1) {
		part := anyName(r)
		if r.Intn(4) == 0 {
			part = []string{".", "..", ".."}[r.Intn(3)]
		}
		path += []string{"/", "/", "/", "//"}[r.Intn(4)] + part
	}
	if path == "" || r.Intn(5) == 0 {
		path += "/"
	}
	return path
}

// anyOp is a made-up op, of a tree that has so many ids.
func anyOp(r *rand.Rand, next int) api.Op {
	op := api.Op{Kind: api.OpCreate + r.Intn(7), Dir: 1 + r.Intn(next), Name: anyName(r), To: 1 + r.Intn(next), New: anyName(r), Mode: r.Intn(9), Target: anyPath(r, 3)}
	switch r.Intn(6) {
	case 0, 1:
		op.Kind = api.OpMkdir
	case 2, 3:
		op.Kind = api.OpSymlink
	}
	if r.Intn(3) == 0 {
		op.Dir = api.Root
	}
	if r.Intn(3) > 0 {
		op.Target = strings.TrimLeft(op.Target, "/")
	}
	return op
}

// anyHistory is a made-up one that is done, up to so many ops.
func anyHistory(r *rand.Rand, most int) []api.Op {
	var history []api.Op
	x := tree.New()
	for range 6 * most {
		op := anyOp(r, x.Next())
		if _, _, e := x.Apply(op); e == api.OK {
			history = append(history, op)
		}
		if len(history) == most {
			break
		}
	}
	return history
}

// broken is a history into which an op was put, most often one that is refused.
func broken(r *rand.Rand, history []api.Op) []api.Op {
	op := anyOp(r, len(history)+3)
	if r.Intn(3) > 0 {
		op.Kind = []int{0, -1, api.OpLook, api.OpSync, api.OpSetattr + 1}[r.Intn(5)]
	}
	return slices.Insert(slices.Clone(history), r.Intn(len(history)+1), op)
}

func anyCall(r *rand.Rand) api.Call {
	call := api.Call{Kind: api.CallLookup + r.Intn(4), Path: anyPath(r, 4), Other: anyPath(r, 2), Mode: r.Intn(3)}
	if r.Intn(20) == 0 {
		call.Kind = []int{0, -1, api.CallMkdir, api.CallSync, 99}[r.Intn(5)]
	}
	return call
}

func anyLinks(r *rand.Rand) int {
	if r.Intn(4) == 0 {
		return []int{math.MinInt, -1, 0, 1, api.MaxLinks + 1, math.MaxInt}[r.Intn(6)]
	}
	return r.Intn(api.MaxLinks + 1)
}

func TestManyAnswers(t *testing.T) {
	came := map[api.Errno]int{}
	kinds := map[int]int{}
	named := 0
	for seed := range 2500 {
		r := rand.New(rand.NewSource(int64(seed)))
		history := anyHistory(r, 1+r.Intn(25))
		if r.Intn(8) == 0 {
			history = broken(r, history)
		}
		for range 4 {
			version, links := r.Intn(len(history)+3)-1, anyLinks(r)
			var calls []api.Call
			for range 15 {
				calls = append(calls, anyCall(r))
			}
			holds(t, history, version, calls, links)
			x, e := modelledAt(history, version)
			for i := 0; i < len(calls) && e == api.OK; i++ {
				a := modelled(x, calls[i], links)
				came[a.Err]++
				kinds[a.Node.Kind]++
				named += min(len(a.Names), 1)
			}
		}
		if t.Failed() {
			t.Fatalf("at the seed %d: %v", seed, history)
		}
	}
	for _, e := range []api.Errno{api.OK, api.ErrArg, api.ErrPath, api.ErrPathTooLong, api.ErrNameTooLong, api.ErrNotFound, api.ErrNotDir, api.ErrNotLink, api.ErrLoop} {
		if came[e] < 100 {
			t.Errorf("%d answers came to %d", came[e], e)
		}
	}
	if kinds[api.KindDir] < 1000 || kinds[api.KindFile] < 100 || kinds[api.KindLink] < 1000 || named < 1000 {
		t.Errorf("kinds %v, %d lists", kinds, named)
	}
}

// turned is an answer of which one part is another one.
func turned(r *rand.Rand, a api.Answer) api.Answer {
	a.Names = slices.Clone(a.Names)
	switch part := r.Intn(7); {
	case part == 0:
		a.Err += api.Errno(1 + r.Intn(3))
	case part == 1:
		a.Node.ID++
	case part == 2:
		a.Node.Kind++
	case part == 3:
		a.Node.Mode++
	case part == 4:
		a.Node.Target += "x"
	case part == 5 && len(a.Names) > 0:
		a.Names = a.Names[1:]
	default:
		a.Names = append(a.Names, "z")
	}
	return a
}

// watched are made-up sights, all as the history has them.
func watched(r *rand.Rand, history []api.Op, count, links int) []api.Sight {
	var sights []api.Sight
	versions := map[api.Seen]int{}
	for range count {
		who := api.Seen{Life: r.Intn(3) - 1, Seq: r.Intn(3)}
		if r.Intn(3) == 0 {
			versions[who] += r.Intn(len(history) - versions[who] + 1)
		}
		x, e := modelledAt(history, versions[who])
		if e != api.OK {
			panic("a history that is not done")
		}
		call := anyCall(r)
		sights = append(sights, sees(who.Seq, who.Life, versions[who], call, modelled(x, call, links)))
	}
	return sights
}

// worsened are sights of which some are other ones: most of these are wrong.
func worsened(r *rand.Rand, history []api.Op, sights []api.Sight, links int) []api.Sight {
	sights = slices.Clone(sights)
	for range 1 + r.Intn(3) {
		s := &sights[r.Intn(len(sights))]
		switch r.Intn(6) {
		case 0:
			s.Answer = turned(r, s.Answer)
		case 1:
			s.Version = r.Intn(len(history)+3) - 1
		case 2:
			// As a tree has it, but perhaps behind a greater version.
			s.Version = r.Intn(len(history) + 1)
			if x, e := modelledAt(history, s.Version); e == api.OK {
				s.Answer = modelled(x, s.Call, links)
			}
		case 3:
			s.Call = anyCall(r)
		case 4:
			s.Life, s.Client = r.Intn(3)-1, r.Intn(3)
		case 5:
			s.Answer.Version = r.Intn(9)
		}
	}
	return sights
}

func TestManySights(t *testing.T) {
	right, wrong, fell, behind := 0, 0, 0, 0
	for seed := range 4000 {
		r := rand.New(rand.NewSource(int64(seed)))
		history, links := anyHistory(r, r.Intn(12)), anyLinks(r)
		sights := watched(r, history, 1+r.Intn(20), links)
		if got := audit.Check(history, sights, links); got != -1 {
			t.Fatalf("at the seed %d: right sights: %d, of %+v", seed, got, sights)
		}
		if r.Intn(4) == 0 {
			history = broken(r, history)
		} else {
			sights = worsened(r, history, sights, links)
		}
		want := modelledCheck(history, sights, links)
		if got := audit.Check(history, sights, links); got != want {
			t.Fatalf("at the seed %d: Check is %d, not %d, of %v, %+v", seed, got, want, history, sights)
		}
		if want < 0 {
			right++
			continue
		}
		wrong++
		s := sights[want]
		if x, e := modelledAt(history, s.Version); e != api.OK {
			behind++
		} else if audit.Same(modelled(x, s.Call, links), s.Answer) {
			fell++
		}
	}
	if right < 300 || wrong < 1000 || fell < 100 || behind < 100 {
		t.Errorf("right %d, wrong %d, of them %d fell, %d behind the ops", right, wrong, fell, behind)
	}
}
