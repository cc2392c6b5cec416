package wire_test

import (
	"bytes"
	"math"
	"slices"
	"strconv"
	"testing"

	"vista/api"
	"vista/wire"
)

// P6.1

func TestNumbers(t *testing.T) {
	for _, x := range []struct {
		n int
		b []byte
	}{
		{0, []byte{0}}, {1, []byte{1}}, {127, []byte{0x7f}}, {128, []byte{0x80, 1}}, {300, []byte{0xac, 2}},
		{16383, []byte{0xff, 0x7f}}, {16384, []byte{0x80, 0x80, 1}}, {1<<35 - 1, []byte{0xff, 0xff, 0xff, 0xff, 0x7f}},
		{1 << 35, []byte{0x80, 0x80, 0x80, 0x80, 0x80, 1}}, {api.MaxMark - 1, []byte{0xff, 0xff, 0xff, 0xff, 0xff, 0x1f}},
		{api.MaxMark, []byte{0x80, 0x80, 0x80, 0x80, 0x80, 0x20}},
	} {
		takes(t, strconv.Itoa(x.n), api.Msg{Kind: api.MsgFlush, Version: x.n}, slices.Concat([]byte{4, 0, 0, 0, 0, 0}, x.b, []byte{0}))
		takesNote(t, strconv.Itoa(x.n), api.Note{Kind: api.NoteBoot, Epoch: x.n}, slices.Concat([]byte{1}, x.b))
	}
}

func TestNumbersInEachField(t *testing.T) {
	for _, f := range numbersOf() {
		zero := f.of()
		f.set(&zero, 0)
		for n, count := range rightNumbers() {
			m := f.of()
			f.set(&m, n)
			takes(t, f.name+" "+strconv.Itoa(n), m, bytesOf(m))
			if more := len(bytesOf(m)) - len(bytesOf(zero)); more != count-1 {
				t.Errorf("%s: %d has %d bytes more than 0", f.name, n, more)
			}
		}
	}
}

func TestTextsInEachField(t *testing.T) {
	for _, f := range textsOf() {
		for _, s := range rightTexts() {
			m := f.of()
			f.set(&m, s)
			takes(t, f.name+" "+strconv.Quote(s), m, bytesOf(m))
			if b := append(groups(len(s)), s...); !bytes.Contains(bytesOf(m), b) {
				t.Errorf("%s: %q does not stand there with its length", f.name, s)
			}
		}
	}
}

func TestEntries(t *testing.T) {
	head := []byte{2, 0, 0, 0, 0, 0, 0, 0, 1}
	for _, x := range []struct {
		entry api.Entry
		b     []byte
	}{
		{api.Entry{Key: api.Key{Dir: 1, Name: "a"}, Neg: true}, []byte{1, 1, 'a', 1}},
		{api.Entry{Neg: true}, []byte{0, 0, 1}},
		{api.Entry{Key: api.Key{Dir: 128, Name: "\x00/"}, Neg: true}, []byte{0x80, 1, 2, 0, '/', 1}},
		{api.Entry{Key: api.Key{Dir: 1, Name: "a"}, Node: api.Node{ID: 2, Kind: api.KindDir, Mode: 7}}, []byte{1, 1, 'a', 0, 2, 1, 7, 0}},
		{api.Entry{Node: api.Node{Kind: api.KindFile}}, []byte{0, 0, 0, 0, 2, 0, 0}},
		{api.Entry{Key: api.Key{Dir: 3}, Node: api.Node{ID: 300, Kind: api.KindLink, Mode: 511, Target: "xy"}}, []byte{3, 0, 0, 0xac, 2, 3, 0xff, 3, 2, 'x', 'y'}},
		// A node is not asked whether a tree could have it.
		{api.Entry{Node: api.Node{Kind: api.KindFile, Mode: 512, Target: "x"}}, []byte{0, 0, 0, 0, 2, 0x80, 4, 1, 'x'}},
	} {
		takes(t, "an entry", api.Msg{Kind: api.MsgReply, Entries: []api.Entry{x.entry}}, slices.Concat(head, x.b))
	}
}

// P6.2

func TestMessages(t *testing.T) {
	for _, x := range []struct {
		what string
		m    api.Msg
		b    []byte
	}{
		{"the chapter's flush", flush(), []byte{4, 1, 2, 0, 3, 4, 5, 0}},
		{"the chapter's ask", api.Msg{Kind: api.MsgAsk, Client: 1, Life: 1, Seq: 300, Op: api.Op{Kind: api.OpLook, Dir: 1, Name: "a"}},
			[]byte{1, 1, 1, 0xac, 2, 0, 0, 0, 0, 1, 1, 1, 0x61, 0, 0, 0, 0}},
		{"the chapter's break", api.Msg{Kind: api.MsgBreak, Client: 2, Life: 1, Mark: 1 + 1i, Version: 9, Keys: []api.Key{{Dir: 1}}},
			[]byte{3, 2, 1, 0, 1, 1, 9, 0, 1, 1, 0}},
		{"an ask", ask(), []byte{1, 1, 2, 0xac, 2, 4, 5, 6, 7, 10, 8, 2, 'a', 'b', 9, 1, 'c', 0xff, 3, 4, '.', '.', '/', 'd'}},
		{"a reply", reply(), []byte{2, 2, 1, 3, 1, 0xc8, 1, 0x80, 1, 40, 4,
			1, 1, 'a', 0, 2, 1, 7, 0,
			1, 1, 'b', 1,
			2, 1, 'c', 0, 3, 2, 0xff, 3, 0,
			0xac, 2, 0, 0, 0x90, 3, 3, 0, 2, '/', 'x'}},
		{"a reply without entries", api.Msg{Kind: api.MsgReply, Client: 1, Life: 2, Seq: 3, Mark: 4 + 5i, Version: 6, Err: 70}, []byte{2, 1, 2, 3, 4, 5, 6, 70, 0}},
		{"a break", breaks(), []byte{3, 3, 4, 0, 1, 2, 9, 0, 3, 1, 1, 'a', 2, 0, 0xac, 2, 3, 'b', 'c', 'd'}},
		{"a flush of zeros", api.Msg{Kind: api.MsgFlush}, []byte{4, 0, 0, 0, 0, 0, 0, 0}},
	} {
		takes(t, x.what, x.m, x.b)
	}
}

func TestAllKindsOfMessages(t *testing.T) {
	for i, m := range messages() {
		takes(t, "message "+strconv.Itoa(i), m, bytesOf(m))
	}
	for kind := api.MsgAsk; kind <= api.MsgFlush; kind++ {
		takes(t, "the longest one of kind "+strconv.Itoa(kind), full(kind), bytesOf(full(kind)))
	}
}

func TestLongestLists(t *testing.T) {
	for _, n := range []int{1, 2, api.MaxNodes - 1, api.MaxNodes} {
		m := api.Msg{Kind: api.MsgReply}
		k := api.Msg{Kind: api.MsgBreak}
		for i := range n {
			m.Entries = append(m.Entries, api.Entry{Key: api.Key{Dir: i, Name: strconv.Itoa(i)}, Neg: i%3 == 1})
			k.Keys = append(k.Keys, m.Entries[i].Key)
			if !m.Entries[i].Neg {
				m.Entries[i].Node = api.Node{ID: i + 100, Kind: 1 + i%3, Mode: i, Target: strconv.Itoa(n)}
			}
		}
		takes(t, strconv.Itoa(n)+" entries", m, bytesOf(m))
		takes(t, strconv.Itoa(n)+" keys", k, bytesOf(k))
	}
}

func TestAnEmptyListIsNone(t *testing.T) {
	for _, m := range []api.Msg{ask(), {Kind: api.MsgReply}, breaks(), flush()} {
		want := bytesOf(m)
		if len(m.Keys) == 0 {
			m.Keys = make([]api.Key, 0, 3)
		}
		m.Entries = []api.Entry{}
		takes(t, "with empty lists", m, want)
	}
	refuses(t, "a break with an empty list", api.Msg{Kind: api.MsgBreak, Keys: []api.Key{}})
}

func TestMinusZero(t *testing.T) {
	minus := math.Copysign(0, -1)
	for _, m := range []complex128{complex(minus, 0), complex(0, minus), complex(minus, minus), complex(minus, 5), complex(5, minus)} {
		x := flush()
		x.Mark = m
		takes(t, "-0", x, []byte{4, 1, 2, 0, byte(real(m)), byte(imag(m)), 5, 0})
		got, e := wire.Decode(bytesOf(x))
		if e != api.OK || math.Signbit(real(got.Mark)) || math.Signbit(imag(got.Mark)) {
			t.Errorf("%v is read as %v, %d", m, got.Mark, e)
		}
	}
}

// P6.3

func TestWrongNumbers(t *testing.T) {
	for _, f := range numbersOf() {
		for _, n := range wrongNumbers() {
			m := f.of()
			f.set(&m, n)
			refuses(t, f.name+" "+strconv.Itoa(n), m)
			refusesBytes(t, f.name+" "+strconv.Itoa(n), bytesOf(m))
		}
	}
}

func TestWrongTexts(t *testing.T) {
	for _, f := range textsOf() {
		for _, s := range wrongTexts() {
			m := f.of()
			f.set(&m, s)
			what := f.name + " of " + strconv.Itoa(len(s))
			refuses(t, what, m)
			refusesBytes(t, what, bytesOf(m))
		}
	}
}

func TestWrongMarks(t *testing.T) {
	for _, of := range []func() api.Msg{ask, reply, breaks, flush} {
		for _, x := range wrongMarks() {
			m := of()
			m.Mark = x
			refuses(t, "a mark that is not good", m)
		}
	}
}

func TestWrongKinds(t *testing.T) {
	refuses(t, "the zero Msg", api.Msg{})
	for _, kind := range wrongKinds(api.MsgFlush) {
		what := "kind " + strconv.Itoa(kind)
		for _, m := range []api.Msg{ask(), reply(), breaks(), flush(), {}} {
			m.Kind = kind
			refuses(t, what, m)
			if kind >= 0 && kind < 256 {
				refusesBytes(t, what, bytesOf(m))
			}
		}
	}
	for _, kind := range wrongKinds(api.OpSetattr) {
		m := ask()
		m.Op.Kind = kind
		what := "Op.Kind " + strconv.Itoa(kind)
		refuses(t, what, m)
		if kind >= 0 && kind < 256 {
			refusesBytes(t, what, bytesOf(m))
		}
	}
	for _, kind := range wrongKinds(api.KindLink) {
		for _, i := range []int{0, 2, 3} {
			m := reply()
			m.Entries[i].Node.Kind = kind
			what := "Node.Kind " + strconv.Itoa(kind)
			refuses(t, what, m)
			if kind >= 0 && kind < 256 {
				refusesBytes(t, what, bytesOf(m))
			}
		}
	}
}

func TestWhatAKindDoesNotCarry(t *testing.T) {
	for i, of := range []func() api.Msg{ask, reply, breaks, flush} {
		kind := " in kind " + strconv.Itoa(i+1)
		if m := of(); m.Kind != api.MsgAsk {
			for _, op := range []api.Op{ask().Op, {Kind: 1}, {Kind: -1}, {Dir: 1}, {Name: "x"}, {To: 1}, {New: "x"}, {Mode: 1}, {Target: "x"}} {
				m.Op = op
				refuses(t, "an Op"+kind, m)
			}
		}
		if m := of(); m.Kind != api.MsgReply {
			for _, entries := range [][]api.Entry{reply().Entries, {{}}, {{Neg: true}}} {
				m.Entries = entries
				refuses(t, "Entries"+kind, m)
			}
		}
		if m := of(); m.Kind != api.MsgBreak {
			for _, keys := range [][]api.Key{breaks().Keys, {{}}} {
				m.Keys = keys
				refuses(t, "Keys"+kind, m)
			}
		}
	}
}

func TestNegWithANode(t *testing.T) {
	for _, node := range []api.Node{{ID: 1}, {Kind: 1}, {Mode: 1}, {Target: "x"}, {ID: 2, Kind: api.KindDir, Mode: 7}, {ID: -1}} {
		for i := range reply().Entries {
			m := reply()
			m.Entries[i] = api.Entry{Key: m.Entries[i].Key, Neg: true, Node: node}
			refuses(t, "a Neg entry with a node", m)
		}
	}
	m := reply()
	m.Entries[0].Node = api.Node{}
	refuses(t, "an entry that is not Neg with the zero Node", m)
}

func TestWrongCounts(t *testing.T) {
	for _, n := range []int{api.MaxNodes + 1, api.MaxNodes + 2, 127, 128, 256, 256 + api.MaxNodes, 1000} {
		m := api.Msg{Kind: api.MsgReply, Entries: slices.Repeat([]api.Entry{{Neg: true}}, n)}
		refuses(t, strconv.Itoa(n)+" entries", m)
		refusesBytes(t, strconv.Itoa(n)+" entries", bytesOf(m))
		m = api.Msg{Kind: api.MsgBreak, Keys: make([]api.Key, n)}
		refuses(t, strconv.Itoa(n)+" keys", m)
		refusesBytes(t, strconv.Itoa(n)+" keys", bytesOf(m))
	}
	m := breaks()
	m.Keys = nil
	refuses(t, "no keys", m)
	refusesBytes(t, "no keys", bytesOf(m))
}

func TestCountsThatAreNotKept(t *testing.T) {
	head := []byte{0, 0, 0, 0, 0, 0, 0, 0}
	for _, told := range []int{0, 1, 2, api.MaxNodes - 1, api.MaxNodes, api.MaxNodes + 1, api.MaxNodes + 2, 127, 128, 256 + api.MaxNodes, 1 << 32, api.MaxMark} {
		for _, there := range []int{0, 1, 2, api.MaxNodes - 1, api.MaxNodes, api.MaxNodes + 1, api.MaxNodes + 2, 127, 128} {
			if told == there {
				continue
			}
			what := strconv.Itoa(told) + " told, " + strconv.Itoa(there) + " there"
			head[0] = api.MsgReply
			refusesBytes(t, what, slices.Concat(head, groups(told), bytes.Repeat([]byte{0, 0, 1}, there)))
			refusesBytes(t, what, slices.Concat(head, groups(told), bytes.Repeat([]byte{1, 1, 'a', 0, 2, 1, 0, 0}, there)))
			head[0] = api.MsgBreak
			refusesBytes(t, what, slices.Concat(head, groups(told), bytes.Repeat([]byte{1, 1, 'a'}, there)))
		}
	}
}

func TestOneWrongItemAmongMany(t *testing.T) {
	for i := range api.MaxNodes {
		m := full(api.MsgReply)
		m.Entries[i].Node.Kind = 4
		refuses(t, "entry "+strconv.Itoa(i), m)
		refusesBytes(t, "entry "+strconv.Itoa(i), bytesOf(m))
		m = full(api.MsgBreak)
		m.Keys[i].Dir = api.MaxMark + 1
		refuses(t, "key "+strconv.Itoa(i), m)
		refusesBytes(t, "key "+strconv.Itoa(i), bytesOf(m))
	}
}

func TestBytesOfNoMessage(t *testing.T) {
	huge := bytes.Repeat([]byte{0x80}, 1000)
	for _, x := range []struct {
		what string
		b    []byte
	}{
		{"no bytes", nil}, {"no bytes", []byte{}}, {"the chapter's", []byte{4, 1, 2, 0, 3, 4, 5}},
		{"zeros", make([]byte, 8)}, {"zeros", make([]byte, 100)}, {"a kind alone", []byte{4}},
		{"a number without an end", append([]byte{4}, huge...)},
		{"a number without an end at the end", append([]byte{4, 0, 0, 0, 0, 0, 0}, huge...)},
		{"a number of many groups", slices.Concat([]byte{4}, huge, []byte{1, 0, 0, 0, 0, 0, 0})},
		{"a 0 of two groups", []byte{4, 0x80, 0, 0, 0, 0, 0, 0, 0}},
		{"a number of six groups above the limit", []byte{4, 0x81, 0x80, 0x80, 0x80, 0x80, 0x20, 0, 0, 0, 0, 0, 0}},
		{"a number of seven groups", []byte{4, 0x80, 0x80, 0x80, 0x80, 0x80, 0x80, 1, 0, 0, 0, 0, 0, 0}},
		{"a number of seven groups, the last one 0", []byte{4, 0x81, 0x80, 0x80, 0x80, 0x80, 0x80, 0, 0, 0, 0, 0, 0, 0}},
		{"a number that 64 bits do not hold", []byte{4, 0x81, 0x80, 0x80, 0x80, 0x80, 0x80, 0x80, 0x80, 0x80, 2, 0, 0, 0, 0, 0, 0}},
		{"a text that is not there", []byte{1, 0, 0, 0, 0, 0, 0, 0, 1, 1, 5, 'a', 'b'}},
		{"a text of MaxMark bytes", []byte{1, 0, 0, 0, 0, 0, 0, 0, 1, 1, 0x80, 0x80, 0x80, 0x80, 0x80, 0x20, 'a'}},
		{"entries that are not there", []byte{2, 0, 0, 0, 0, 0, 0, 0, 3, 0, 0, 1}},
		{"MaxMark entries", []byte{2, 0, 0, 0, 0, 0, 0, 0, 0x80, 0x80, 0x80, 0x80, 0x80, 0x20, 0, 0, 1}},
		{"MaxMark keys", []byte{3, 0, 0, 0, 0, 0, 0, 0, 0x80, 0x80, 0x80, 0x80, 0x80, 0x20, 0, 0}},
	} {
		refusesBytes(t, x.what, x.b)
		refusesNoteBytes(t, x.what, x.b)
	}
}

func TestByteOfNeg(t *testing.T) {
	for x := 2; x < 256; x++ {
		what := "Neg " + strconv.Itoa(x)
		refusesBytes(t, what, []byte{2, 0, 0, 0, 0, 0, 0, 0, 1, 1, 1, 'a', byte(x)})
		refusesBytes(t, what, []byte{2, 0, 0, 0, 0, 0, 0, 0, 1, 1, 1, 'a', byte(x), 2, 1, 7, 0})
		refusesNoteBytes(t, what, []byte{3, 1, 1, 'a', byte(x)})
		refusesNoteBytes(t, what, []byte{3, 1, 1, 'a', byte(x), 2, 1, 7, 0})
	}
}

// R3

// roomy is bytes with spare room that says something.
func roomy(b []byte) []byte {
	return append(bytes.Clone(b), bytes.Repeat([]byte{0xee}, 200)...)[: len(b) : len(b)+200]
}

func TestWhatIsHandedInIsLeft(t *testing.T) {
	for _, m := range messages() {
		b := roomy(bytesOf(m))
		was := bytes.Clone(b[:cap(b)])
		got, _ := wire.Decode(b)
		if !bytes.Equal(b[:cap(b)], was) {
			t.Errorf("Decode(%s) has changed its bytes", brief(b))
		}
		// What was read does not hang on the bytes any more.
		clear(b[:cap(b)])
		if !same(got, m) {
			t.Errorf("%v became %v with its bytes", m, got)
		}
	}
	for _, of := range []func() api.Msg{reply, breaks} {
		m := of()
		m.Entries = append(m.Entries, api.Entry{Neg: true})[:len(m.Entries)]
		m.Keys = append(m.Keys, api.Key{Dir: 99})[:len(m.Keys)]
		wire.Encode(m)
		if !same(m, of()) || !m.Entries[:len(m.Entries)+1][len(m.Entries)].Neg || m.Keys[:len(m.Keys)+1][len(m.Keys)].Dir != 99 {
			t.Errorf("Encode has changed its lists: %v", m)
		}
	}
}

func TestAnswersAreNewMemory(t *testing.T) {
	for _, m := range messages() {
		want := bytesOf(m)
		a, _ := wire.Encode(m)
		b, _ := wire.Encode(m)
		clear(a[:cap(a)])
		if !bytes.Equal(b, want) {
			t.Errorf("two answers of Encode share memory: %s", brief(want))
		}
		takes(t, "once more", m, want)
		first, _ := wire.Decode(want)
		second, _ := wire.Decode(want)
		clear(first.Entries[:cap(first.Entries)])
		clear(first.Keys[:cap(first.Keys)])
		if !same(second, m) {
			t.Errorf("two answers of Decode share memory: %v", m)
		}
	}
}
