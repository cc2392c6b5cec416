package bag_test

import (
	"bytes"
	"math"
	"slices"
	"strconv"
	"testing"

	"vista/api"
	"vista/bag"
)

// letter is a letter with a text's bytes.
func letter(to int, text string) api.Letter {
	return api.Letter{To: to, Bytes: []byte(text)}
}

// numbered are n letters, no two alike, the first of them to first.
func numbered(first, n int) []api.Letter {
	all := make([]api.Letter, n)
	for i := range all {
		all[i] = letter(first+i, "letter "+strconv.Itoa(first+i))
	}
	return all
}

// alike tells whether two letters say the same.
func alike(a, b api.Letter) bool {
	return a.To == b.To && bytes.Equal(a.Bytes, b.Bytes)
}

// empty is a new bag.
func empty(t *testing.T, limit int) *bag.Bag {
	t.Helper()
	b, e := bag.New(limit)
	if b == nil || e != api.OK {
		t.Fatalf("New(%d): %v, %d", limit, b, e)
	}
	return b
}

// filled is a new bag with letters in it.
func filled(t *testing.T, limit int, letters ...api.Letter) *bag.Bag {
	t.Helper()
	b := empty(t, limit)
	for i, l := range letters {
		wants(t, "Post "+strconv.Itoa(i), b.Post(l), api.OK)
	}
	return b
}

// wants fails if an error's number is another one.
func wants(t *testing.T, what string, got, want api.Errno) {
	t.Helper()
	if got != want {
		t.Errorf("%s: %d, not %d", what, got, want)
	}
}

// holds fails if a bag's letters are others than these.
func holds(t *testing.T, what string, b *bag.Bag, want ...api.Letter) {
	t.Helper()
	if b.Len() != len(want) {
		t.Errorf("%s: Len %d, not %d", what, b.Len(), len(want))
	}
	if got := b.Letters(); !slices.EqualFunc(got, want, alike) {
		t.Errorf("%s: %v, not %v", what, got, want)
	}
}

// takes fails if a bag's letter i is another one than this.
func takes(t *testing.T, what string, b *bag.Bag, i int, want api.Letter) {
	t.Helper()
	if l, e := b.Take(i); e != api.OK || !alike(l, want) {
		t.Errorf("%s: Take(%d): %v, %d, not %v", what, i, l, e, want)
	}
}

// outside are numbers of letters that a bag of n letters does not have.
func outside(n int) []int {
	return []int{-1, -2, -n - 1, n, n + 1, 2*n + 1, api.MaxBag, api.MaxBag + 1, 1 << 31, 1 << 32, math.MinInt, math.MinInt + 1, math.MaxInt}
}

// P4.1

func TestNewRefuses(t *testing.T) {
	for _, limit := range []int{0, -1, -2, -api.MaxBag, api.MaxBag + 1, 2 * api.MaxBag, 1 << 32, 1<<32 + 1, math.MinInt, math.MinInt + 1, math.MaxInt} {
		if b, e := bag.New(limit); b != nil || e != api.ErrArg {
			t.Errorf("New(%d): %v, %d", limit, b, e)
		}
	}
}

func TestNewIsEmpty(t *testing.T) {
	for limit := 1; limit <= api.MaxBag; limit++ {
		holds(t, "New("+strconv.Itoa(limit)+")", empty(t, limit))
	}
}

func TestLenAndLettersTellAllInOrder(t *testing.T) {
	for _, limit := range []int{1, 2, 5, api.MaxBag - 1, api.MaxBag} {
		b := empty(t, limit)
		all := numbered(0, limit)
		for i, l := range all {
			holds(t, "ahead of a post", b, all[:i]...)
			wants(t, "Post", b.Post(l), api.OK)
		}
		holds(t, "full", b, all...)
		holds(t, "told twice", b, all...)
	}
}

// P4.2

func TestPostIntoFullBag(t *testing.T) {
	for _, limit := range []int{1, 2, 3, api.MaxBag - 1, api.MaxBag} {
		all := numbered(0, limit)
		b := filled(t, limit, all...)
		for range 2 {
			wants(t, "Post into a full bag", b.Post(letter(9, "lost")), api.ErrFull)
			holds(t, "a lost letter", b, all...)
		}
		// The limit is how many letters there are, not how many there were.
		takes(t, "full", b, 0, all[0])
		wants(t, "Post behind a Take", b.Post(letter(8, "kept")), api.OK)
		wants(t, "Post into a full bag", b.Post(letter(9, "lost")), api.ErrFull)
		wants(t, "Drop", b.Drop(0), api.OK)
		wants(t, "Post behind a Drop", b.Post(letter(7, "")), api.OK)
		wants(t, "Post into a full bag", b.Post(letter(9, "lost")), api.ErrFull)
		want := append(all[1:], letter(8, "kept"), letter(7, ""))
		holds(t, "full again", b, want[len(want)-limit:]...)
	}
}

func TestPostTakesEveryLetter(t *testing.T) {
	every := make([]byte, 256)
	for i := range every {
		every[i] = byte(i)
	}
	letters := []api.Letter{
		{}, {To: 1}, {To: 2, Bytes: []byte{}}, {Bytes: []byte{0}}, {To: -1, Bytes: every},
		{To: math.MinInt, Bytes: []byte{0, 0}}, {To: math.MaxInt, Bytes: make([]byte, api.MaxWire+1)},
		letter(1, "same"), letter(1, "same"), letter(2, "same"),
	}
	b := filled(t, api.MaxBag, letters...)
	holds(t, "posted", b, letters...)
	for _, l := range letters {
		takes(t, "posted", b, 0, l)
	}
	holds(t, "all taken", b)
}

func TestTake(t *testing.T) {
	for _, n := range []int{1, 2, 3, 7, api.MaxBag} {
		for i := range n {
			all := numbered(3, n)
			b := filled(t, api.MaxBag, all...)
			takes(t, "Take", b, i, all[i])
			holds(t, "behind a Take", b, slices.Delete(all, i, i+1)...)
		}
	}
}

func TestTakeAllFromEitherEnd(t *testing.T) {
	for _, limit := range []int{1, 2, 5, api.MaxBag} {
		all := numbered(0, limit)
		b := filled(t, limit, all...)
		for i := range all {
			takes(t, "the first", b, 0, all[i])
			holds(t, "without the first", b, all[i+1:]...)
		}
		b = filled(t, limit, all...)
		for i := limit - 1; i >= 0; i-- {
			takes(t, "the last", b, i, all[i])
			holds(t, "without the last", b, all[:i]...)
		}
	}
}

func TestDrop(t *testing.T) {
	for _, n := range []int{1, 2, 3, 7, api.MaxBag} {
		for i := range n {
			all := numbered(3, n)
			b := filled(t, api.MaxBag, all...)
			wants(t, "Drop", b.Drop(i), api.OK)
			holds(t, "behind a Drop", b, slices.Delete(all, i, i+1)...)
		}
	}
}

func TestDouble(t *testing.T) {
	for _, n := range []int{1, 2, 3, 7, api.MaxBag - 1} {
		for i := range n {
			all := numbered(3, n)
			b := filled(t, n+1, all...)
			wants(t, "Double", b.Double(i), api.OK)
			holds(t, "behind a Double", b, append(all, all[i])...)
			wants(t, "Double into a full bag", b.Double(i), api.ErrFull)
			holds(t, "behind a refused Double", b, append(all, all[i])...)
		}
	}
}

func TestDoubleIntoFullBag(t *testing.T) {
	for _, limit := range []int{1, 2, 3, api.MaxBag} {
		all := numbered(0, limit)
		b := filled(t, limit, all...)
		for i := range limit {
			wants(t, "Double into a full bag", b.Double(i), api.ErrFull)
		}
		// That there is no such letter is told first.
		for _, i := range outside(limit) {
			wants(t, "Double("+strconv.Itoa(i)+") of a full bag", b.Double(i), api.ErrNone)
		}
		holds(t, "behind refused Doubles", b, all...)
	}
}

func TestDoubleOfDouble(t *testing.T) {
	b := filled(t, api.MaxBag, letter(1, "one"))
	for n := 1; n < api.MaxBag; n++ {
		wants(t, "Double of the last", b.Double(n-1), api.OK)
	}
	holds(t, "doubled", b, slices.Repeat([]api.Letter{letter(1, "one")}, api.MaxBag)...)
	wants(t, "Double into a full bag", b.Double(0), api.ErrFull)
}

func TestLettersWithoutBytes(t *testing.T) {
	for _, none := range [][]byte{nil, {}, make([]byte, 0, 9)} {
		b := filled(t, 3, api.Letter{To: 4, Bytes: none}, letter(5, "x"))
		wants(t, "Double", b.Double(0), api.OK)
		holds(t, "doubled", b, letter(4, ""), letter(5, "x"), letter(4, ""))
		takes(t, "the first", b, 0, letter(4, ""))
		wants(t, "Drop", b.Drop(1), api.OK)
		holds(t, "dropped", b, letter(5, "x"))
	}
}

func TestThereIsNoSuchLetter(t *testing.T) {
	for _, limit := range []int{1, 2, 3, api.MaxBag} {
		for n := range min(limit+1, 5) {
			all := numbered(1, n)
			b := filled(t, limit, all...)
			for _, i := range outside(n) {
				// A number that happens to be inside is no case of this test.
				if i >= 0 && i < n {
					continue
				}
				if l, e := b.Take(i); e != api.ErrNone || l.To != 0 || len(l.Bytes) != 0 {
					t.Errorf("Take(%d) of %d: %v, %d", i, n, l, e)
				}
				wants(t, "Drop("+strconv.Itoa(i)+")", b.Drop(i), api.ErrNone)
				wants(t, "Double("+strconv.Itoa(i)+")", b.Double(i), api.ErrNone)
				holds(t, "behind refused calls", b, all...)
			}
		}
	}
}

// P4.3

// model is a bag as the chapter tells it: of each letter, which posting it comes from.
type model struct {
	limit int
	posts int
	from  []int
}

func (m *model) post() api.Errno {
	m.posts++
	if len(m.from) == m.limit {
		return api.ErrFull
	}
	m.from = append(m.from, m.posts)
	return api.OK
}

func (m *model) double(i int) api.Errno {
	switch {
	case i >= len(m.from):
		return api.ErrNone
	case len(m.from) == m.limit:
		return api.ErrFull
	}
	m.from = append(m.from, m.from[i])
	return api.OK
}

// lose takes letter i out, and tells of which posting it was.
func (m *model) lose(i int) (int, api.Errno) {
	if i >= len(m.from) {
		return 0, api.ErrNone
	}
	posting := m.from[i]
	m.from = slices.Delete(m.from, i, i+1)
	return posting, api.OK
}

// posted is the letter of a posting: no two postings are alike.
func posted(posting int) api.Letter {
	return letter(posting, "posting "+strconv.Itoa(posting))
}

// kinds is how many kinds of step there are.
const kinds = 10

// step does one of the kinds of step to a bag and to its model. It tells both errors, and the letters that were answered and expected.
func step(b *bag.Bag, m *model, what int) (got, want api.Errno, taken, model api.Letter) {
	i := (what - 1) % 3
	switch {
	case what == 0:
		want = m.post()
		got = b.Post(posted(m.posts))
	case what <= 3:
		got, want = b.Double(i), m.double(i)
	case what <= 6:
		got = b.Drop(i)
		_, want = m.lose(i)
	default:
		var posting int
		taken, got = b.Take(i)
		if posting, want = m.lose(i); want == api.OK {
			model = posted(posting)
		}
	}
	return got, want, taken, model
}

// script makes a number into a list of n steps.
func script(number, n int) []int {
	steps := make([]int, n)
	for i := range steps {
		steps[i] = number % kinds
		number /= kinds
	}
	return steps
}

func TestEveryShortScript(t *testing.T) {
	const long = 5
	for number := range 2 * kinds * kinds * kinds * kinds * kinds {
		limit := 2 + number%2
		steps := script(number/2, long)
		b, m := empty(t, limit), &model{limit: limit}
		// The first posting is there at each script's beginning, or most of them would find nothing.
		step(b, m, 0)
		for i, what := range steps {
			got, want, taken, expected := step(b, m, what)
			if got != want || !alike(taken, expected) {
				t.Fatalf("limit %d, %v, step %d: %d and %v, not %d and %v", limit, steps, i, got, taken, want, expected)
			}
		}
		left := make([]api.Letter, len(m.from))
		for i, posting := range m.from {
			left[i] = posted(posting)
		}
		holds(t, "a script", b, left...)
		if t.Failed() {
			t.Fatalf("at limit %d and the script %v", limit, steps)
		}
	}
}

func TestEachPostingArrivesOnceAndOnceForEachDouble(t *testing.T) {
	const posts = 3000
	b := empty(t, 5)
	may := make([]int, posts)
	at := 1
	for posting := range posts {
		if b.Post(posted(posting)) == api.OK {
			may[posting]++
		}
		// Numbers that never settle say what happens between two postings.
		for range 3 {
			at = (at*1103515245 + 12345) % (1 << 31)
			i, what := at>>16%6, at>>20%4
			all := b.Letters()
			switch {
			case what == 0 && b.Double(i) == api.OK:
				may[all[i].To]++
			case what == 1 && b.Drop(i) == api.OK:
				may[all[i].To]--
			case what > 1:
				arrives(t, b, i, may)
			}
		}
	}
	for range b.Len() {
		arrives(t, b, 0, may)
	}
	for posting, n := range may {
		if n != 0 {
			t.Errorf("posting %d is to arrive %d times more", posting, n)
		}
	}
}

// arrives takes letter i, if there is one, and fails if it was not posted or has arrived too often.
func arrives(t *testing.T, b *bag.Bag, i int, may []int) {
	t.Helper()
	l, e := b.Take(i)
	if e != api.OK {
		return
	}
	if l.To < 0 || l.To >= len(may) || !alike(l, posted(l.To)) {
		t.Fatalf("%v was not posted", l)
	}
	if may[l.To]--; may[l.To] < 0 {
		t.Fatalf("%v has arrived too often", l)
	}
}

func TestBagsHaveNothingInCommon(t *testing.T) {
	a, b := filled(t, 2, letter(1, "a")), filled(t, 2, letter(2, "b"))
	a.Double(0)
	holds(t, "the other bag", b, letter(2, "b"))
	b.Drop(0)
	holds(t, "the first bag", a, letter(1, "a"), letter(1, "a"))
	wants(t, "Post into a full bag", a.Post(letter(1, "c")), api.ErrFull)
	wants(t, "Post into the other bag", b.Post(letter(1, "c")), api.OK)
}

func TestExampleOfTheChapter(t *testing.T) {
	x, y, z := letter(1, "x"), letter(2, "y"), letter(3, "z")
	b := empty(t, 2)
	wants(t, "Post x", b.Post(x), api.OK)
	wants(t, "Post y", b.Post(y), api.OK)
	wants(t, "Post z", b.Post(z), api.ErrFull)
	wants(t, "Double(0)", b.Double(0), api.ErrFull)
	takes(t, "the first", b, 0, x)
	wants(t, "Double(0)", b.Double(0), api.OK)
	holds(t, "doubled", b, y, y)
	wants(t, "Drop(2)", b.Drop(2), api.ErrNone)
}

// R3 and the end of P4.3

// spoil overwrites a letter's bytes, spare room too.
func spoil(l api.Letter) {
	all := l.Bytes[:cap(l.Bytes)]
	for i := range all {
		all[i] = 0xee
	}
}

func TestPostedBytesAreNeitherChangedNorKept(t *testing.T) {
	b := empty(t, 2)
	room := []byte("abcdefgh")
	l := api.Letter{To: 1, Bytes: room[:3]}
	for range 3 {
		b.Post(l)
		b.Double(0)
		spoil(b.Letters()[0])
		if string(room) != "abcdefgh" {
			t.Fatalf("the bytes have become %q", room)
		}
	}
	spoil(l)
	holds(t, "what was posted", b, letter(1, "abc"), letter(1, "abc"))
	takes(t, "what was posted", b, 0, letter(1, "abc"))
}

func TestAnswersAreNewMemory(t *testing.T) {
	x, y := letter(1, "xxxx"), letter(2, "yy")
	// What is posted has memory of its own, or it would be spoilt together with what is expected.
	b := filled(t, 4, letter(1, "xxxx"), letter(2, "yy"))
	b.Double(0)
	first, second := b.Letters(), b.Letters()
	for i := range first {
		spoil(first[i])
	}
	room := first[:cap(first)]
	clear(room)
	if !slices.EqualFunc(second, []api.Letter{x, y, x}, alike) {
		t.Errorf("two answers have memory in common: %v", second)
	}
	holds(t, "the bag", b, x, y, x)
	taken, _ := b.Take(0)
	spoil(taken)
	holds(t, "the bag behind a Take", b, y, x)
	if !slices.EqualFunc(second, []api.Letter{x, y, x}, alike) {
		t.Errorf("a letter taken has memory in common with one told: %v", second)
	}
}

func TestListsOfOneAnswerShareNothing(t *testing.T) {
	x := letter(1, "xxxx")
	b := filled(t, 3, letter(1, "xxxx"), letter(1, "xxxx"))
	b.Double(1)
	for i := range 3 {
		all := b.Letters()
		spoil(all[i])
		for j, l := range all {
			if j != i && !alike(l, x) {
				t.Errorf("letters %d and %d share their bytes: %v", i, j, l)
			}
		}
	}
	// A double is no other name of the same letter.
	for n := 3; n > 0; n-- {
		l, _ := b.Take(n - 1)
		spoil(l)
		holds(t, "the others", b, slices.Repeat([]api.Letter{x}, n-1)...)
	}
}

func TestLaterCallsLeaveAnswersAlone(t *testing.T) {
	all := numbered(1, 4)
	b := filled(t, 4, all...)
	told := b.Letters()
	taken, _ := b.Take(1)
	b.Drop(0)
	b.Double(0)
	b.Post(letter(9, "another one"))
	b.Take(0)
	if !slices.EqualFunc(told, all, alike) || !alike(taken, all[1]) {
		t.Errorf("later calls turned what was answered: %v, %v", told, taken)
	}
}
