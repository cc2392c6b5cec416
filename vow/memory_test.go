package vow_test

import (
	"slices"
	"testing"

	"vista/api"
)

// R3

// spoil writes over a list of keys, its spare room too.
func spoil(keys []api.Key) {
	all := keys[:cap(keys)]
	for i := range all {
		all[i] = key(-77, "spoilt")
	}
}

// ruin writes over a list of breaks, and over all that it holds.
func ruin(breaks []api.Break) {
	for i := range breaks {
		spoil(breaks[i].Keys)
	}
	all := breaks[:cap(breaks)]
	for i := range all {
		all[i] = api.Break{Mark: -77, Version: -77, All: true, Keys: []api.Key{key(-77, "ruined")}}
	}
}

func TestKeysAreNeitherChangedNorKept(t *testing.T) {
	for _, keys := range [][]api.Key{
		{key(1, "a")},
		{key(1, "a"), key(1, "b"), key(1, "c")},
		{key(1, "c"), key(1, "a"), key(1, "b")},
		{key(1, "b"), key(3, "not promised"), key(1, "b"), key(1, "a"), key(1, "b")},
		{key(3, "not promised"), key(2, "z"), key(2, "y"), key(2, "y"), key(2, "")},
		{key(3, "not promised")},
		nil,
	} {
		v := granted(t, 9, 9, key(1, "a"), key(1, "b"), key(1, "c"), key(2, ""))
		room := append(slices.Clone(keys), key(8, "spare"), key(1, "a"), key(0, "room"))
		want := slices.Clone(room)
		made := v.Touch(room[:len(keys)], 5)
		if !slices.Equal(room, want) {
			t.Errorf("%v was changed to %v", want, room)
		}
		promises, mark := v.Promises(), v.Mark()
		queue := v.Queue()
		spoil(room)
		holds(t, "kept", v, promises...)
		queues(t, "kept", v, mark, made...)
		says(t, "kept", queue, made...)
	}
}

func TestAnswersAreNewMemory(t *testing.T) {
	v := granted(t, 3, 9, key(1, "a"), key(1, "b"), key(2, ""))
	one := broken(1+1i, 4, key(1, "a"))
	two := broken(1+2i, 5, key(1, "b"), key(2, "x"), key(2, "y"))
	three := broken(1+3i, 6, key(2, ""))

	byGrant := v.Grant(key(3, "c"), 4)
	says(t, "Grant", byGrant, one)
	ruin(byGrant)
	queues(t, "Grant", v, 1+1i, one)

	byTouch := v.Touch([]api.Key{key(2, "y"), key(1, "b"), key(2, "x")}, 5)
	says(t, "Touch", byTouch, two)
	ruin(byTouch)
	queues(t, "Touch", v, 1+2i, one, two)

	v.Grant(key(3, "d"), 5)
	ruin(v.Grant(key(3, "e"), 6))
	queues(t, "Grant", v, 1+3i, one, two, three)

	spoil(v.Promises())
	holds(t, "Promises", v, key(3, "c"), key(3, "d"), key(3, "e"))
	// Nor is there room behind the answer that the table goes on in.
	promises := v.Promises()
	v.Grant(key(3, "c"), 6)
	spoil(promises)
	holds(t, "Promises", v, key(3, "d"), key(3, "e"), key(3, "c"))

	ruin(v.Queue())
	queues(t, "Queue", v, 1+3i, one, two, three)
	queue := v.Queue()
	v.Ack(1 + 1i)
	ruin(queue)
	queues(t, "Queue", v, 1+3i, two, three)
}

func TestListsOfOneAnswerShareNothing(t *testing.T) {
	v := granted(t, 9, 9, key(1, ""))
	want := []api.Break{
		broken(1+1i, 1, key(1, "a"), key(1, "b")), broken(1+2i, 2, key(1, "c")), broken(1+3i, 3, key(1, "d"), key(1, "e"), key(1, "f")),
	}
	for _, b := range want {
		v.Touch(b.Keys, b.Version)
	}
	queue := v.Queue()
	for i := range queue {
		spoil(queue[i].Keys)
		says(t, "one spoilt", queue[i+1:], want[i+1:]...)
		queues(t, "one spoilt", v, 1+3i, want...)
	}
}

func TestAnswersStayAsTheyAre(t *testing.T) {
	v := granted(t, 3, 3, key(1, "a"), key(1, "b"), key(2, ""))
	byGrant := v.Grant(key(3, "c"), 1)
	byTouch := v.Touch([]api.Key{key(2, "x"), key(1, "b")}, 2)
	promises, queue := v.Promises(), v.Queue()
	for i := range 40 {
		v.Grant(key(i%6, "later"), 9)
		v.Touch([]api.Key{key(i%4, "later"), key(2, "")}, 9)
		v.Ack(complex(1, float64(i/3)))
	}
	one, two := broken(1+1i, 1, key(1, "a")), broken(1+2i, 2, key(1, "b"), key(2, "x"))
	says(t, "Grant", byGrant, one)
	says(t, "Touch", byTouch, two)
	says(t, "Queue", queue, one, two)
	if !slices.Equal(promises, []api.Key{key(2, ""), key(3, "c")}) {
		t.Errorf("Promises: %v", promises)
	}
}
