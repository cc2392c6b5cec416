package wire_test

import (
	"bytes"
	"math/rand"
	"slices"
	"strconv"
	"strings"
	"testing"

	"vista/api"
	"vista/wire"
)

// holds fails unless bytes are read as the chapter says: as the plain message, and the plain note, whose bytes they are.
func holds(t *testing.T, b []byte) {
	t.Helper()
	r := guess{b}
	if m := r.message(); isPlain(m) && bytes.Equal(bytesOf(m), b) {
		takes(t, "bytes", m, b)
	} else {
		refusesBytes(t, "bytes", b)
	}
	r = guess{b}
	if n := r.note(); isPlainNote(n) && bytes.Equal(bytesOfNote(n), b) {
		takesNote(t, "bytes", n, b)
	} else {
		refusesNoteBytes(t, "bytes", b)
	}
}

// samples are the bytes of messages and notes.
func samples() [][]byte {
	var all [][]byte
	for _, m := range messages() {
		all = append(all, bytesOf(m))
	}
	for _, n := range notes() {
		all = append(all, bytesOfNote(n))
	}
	return all
}

func TestCutAnywhere(t *testing.T) {
	for _, m := range append(messages(), full(api.MsgReply), full(api.MsgBreak)) {
		b := bytesOf(m)
		for i := range b {
			refusesBytes(t, "cut at "+strconv.Itoa(i), b[:i:i])
			refusesBytes(t, "cut at "+strconv.Itoa(i)+", with the rest as spare room", b[:i])
		}
	}
	for _, n := range notes() {
		b := bytesOfNote(n)
		for i := range b {
			refusesNoteBytes(t, "cut at "+strconv.Itoa(i), b[:i])
		}
	}
}

func TestBytesBehind(t *testing.T) {
	for _, m := range append(messages(), full(api.MsgReply), full(api.MsgBreak)) {
		b := bytesOf(m)
		for x := range 256 {
			refusesBytes(t, "a byte behind", append(slices.Clip(b), byte(x)))
		}
		refusesBytes(t, "itself behind", slices.Concat(b, b))
	}
	for _, n := range notes() {
		b := bytesOfNote(n)
		for x := range 256 {
			refusesNoteBytes(t, "a byte behind", append(slices.Clip(b), byte(x)))
		}
		refusesNoteBytes(t, "itself behind", slices.Concat(b, b))
	}
}

// wrongWays are wrong ways to write a number, wherever it stands.
func wrongWays() map[string]func(n int) []byte {
	one := func(n int) []byte {
		b := groups(n)
		b[len(b)-1] |= 0x80
		return append(b, 0)
	}
	return map[string]func(n int) []byte{
		"a group more":        one,
		"two groups more":     func(n int) []byte { return append(one(n)[:len(groups(n))], 0x80, 0) },
		"ten groups":          func(n int) []byte { return append(bytes.Repeat([]byte{0x80}, 9), 1) },
		"MaxMark + 1":         func(int) []byte { return groups(api.MaxMark + 1) },
		"2^40 more":           func(n int) []byte { return groups(n + api.MaxMark + 1) },
		"2^42 more":           func(n int) []byte { return groups(n + 1<<42) },
		"2^56 more":           func(n int) []byte { return groups(n + 1<<56) },
		"below 0":             func(n int) []byte { return groups(-1 - n) },
		"64 bits and 1 above": func(n int) []byte { return append(bytes.Repeat([]byte{0xff}, 10), 1) },
	}
}

func TestNumbersWrittenWrongly(t *testing.T) {
	for what, way := range wrongWays() {
		for _, m := range append(messages(), full(api.MsgReply), full(api.MsgBreak)) {
			w := model{other: way}
			for w.message(m); w.turn < w.count; w.turn++ {
				turn := model{turn: w.turn, other: way}
				turn.message(m)
				refusesBytes(t, what+" in number "+strconv.Itoa(w.turn), turn.bytes)
			}
		}
		for _, n := range notes() {
			w := model{other: way}
			for w.note(n); w.turn < w.count; w.turn++ {
				turn := model{turn: w.turn, other: way}
				turn.note(n)
				refusesNoteBytes(t, what+" in number "+strconv.Itoa(w.turn), turn.bytes)
			}
		}
	}
}

func TestOneByteTurned(t *testing.T) {
	for _, b := range samples() {
		for i := range b {
			for x := range 256 {
				other := bytes.Clone(b)
				other[i] = byte(x)
				holds(t, other)
			}
			holds(t, slices.Delete(bytes.Clone(b), i, i+1))
			holds(t, slices.Insert(bytes.Clone(b), i, 0))
			holds(t, slices.Insert(bytes.Clone(b), i, 1))
			holds(t, slices.Insert(bytes.Clone(b), i, 0x80))
		}
	}
}

func TestAllShortBytes(t *testing.T) {
	var each func(b []byte, few []byte, left int)
	each = func(b []byte, few []byte, left int) {
		holds(t, b)
		if left == 0 {
			return
		}
		for _, x := range few {
			each(append(slices.Clip(b), x), few, left-1)
		}
	}
	every := make([]byte, 256)
	for i := range every {
		every[i] = byte(i)
	}
	each(nil, every, 2)
	each(nil, []byte{0, 1, 2, 3, 4, 5, 0x80}, 5)
	each([]byte{2, 0, 0, 0, 0, 0, 0, 0}, []byte{0, 1, 2, 3, 0x80}, 7)
	each([]byte{3, 1, 0, 0, 0, 1, 0, 0}, []byte{0, 1, 2, 0x80}, 7)
	each([]byte{4, 0, 0, 0, 0}, []byte{0, 1, 0x7f, 0x80, 0xff}, 5)
	each([]byte{5, 0, 0, 0, 0}, []byte{0, 1, 11}, 8)
}

// dice makes messages and notes, by far the most of them plain.
type dice struct{ *rand.Rand }

func (d dice) number() int {
	if d.Intn(200) == 0 {
		return wrongNumbers()[d.Intn(len(wrongNumbers()))]
	}
	return min(d.Int()>>(22+d.Intn(41)), api.MaxMark)
}

func (d dice) text() string {
	if d.Intn(200) == 0 {
		return strings.Repeat("y", 95+d.Intn(4))
	}
	b := make([]byte, d.Intn(1+d.Intn(20)))
	d.Read(b)
	return string(b)
}

// kind is one from 1 to last, and at times none.
func (d dice) kind(last int) int {
	if d.Intn(50) == 0 {
		return d.Intn(last+4) - 1
	}
	return 1 + d.Intn(last)
}

func (d dice) op() api.Op {
	return api.Op{Kind: d.kind(11), Dir: d.number(), Name: d.text(), To: d.number(), New: d.text(), Mode: d.number(), Target: d.text()}
}

func (d dice) entry() api.Entry {
	e := api.Entry{Key: api.Key{Dir: d.number(), Name: d.text()}, Neg: d.Intn(2) == 0}
	if !e.Neg || d.Intn(50) == 0 {
		e.Node = api.Node{ID: d.number(), Kind: d.kind(3), Mode: d.number(), Target: d.text()}
	}
	return e
}

func (d dice) message() api.Msg {
	m := api.Msg{Kind: d.kind(4), Client: d.number(), Life: d.number(), Seq: d.number(), Mark: complex(float64(d.number()), float64(d.number())), Version: d.number(), Err: api.Errno(d.number())}
	stray := d.Intn(20)
	if m.Kind == api.MsgAsk || stray == 0 {
		m.Op = d.op()
	}
	if m.Kind == api.MsgReply || stray == 1 {
		for range d.Intn(1 + d.Intn(52)) {
			m.Entries = append(m.Entries, d.entry())
		}
	}
	if m.Kind == api.MsgBreak || stray == 2 {
		for range d.Intn(1 + d.Intn(52)) {
			m.Keys = append(m.Keys, api.Key{Dir: d.number(), Name: d.text()})
		}
	}
	return m
}

func (d dice) note() api.Note {
	n := api.Note{Kind: d.kind(5)}
	stray := d.Intn(20)
	if n.Kind == api.NoteBoot || n.Kind == api.NoteBase || stray == 0 {
		n.Epoch = d.number()
	}
	if n.Kind == api.NoteBase || stray == 1 {
		n.Version, n.Next = d.number(), d.number()
	}
	if n.Kind == api.NoteNode || stray == 2 {
		n.Entry = d.entry()
	}
	if n.Kind == api.NoteSeen || n.Kind == api.NoteDone || stray == 3 {
		n.Client, n.Seen = d.number(), api.Seen{Life: d.number(), Seq: d.number(), Err: api.Errno(d.number())}
	}
	if n.Kind == api.NoteDone || stray == 4 {
		n.Op = d.op()
	}
	return n
}

func TestThereAndBack(t *testing.T) {
	d := dice{rand.New(rand.NewSource(6))}
	plain, notPlain := 0, 0
	for range 20000 {
		if m := d.message(); isPlain(m) {
			takes(t, "a message", m, bytesOf(m))
			plain++
		} else {
			refuses(t, "a message", m)
			notPlain++
		}
		if n := d.note(); isPlainNote(n) {
			takesNote(t, "a note", n, bytesOfNote(n))
		} else {
			refusesNote(t, "a note", n)
		}
	}
	if plain < 3000 || notPlain < 3000 {
		t.Errorf("%d plain messages, %d others", plain, notPlain)
	}
}

func TestTornBytes(t *testing.T) {
	d := dice{rand.New(rand.NewSource(7))}
	all := samples()
	for range 100000 {
		b := bytes.Clone(all[d.Intn(len(all))])
		for range 1 + d.Intn(3) {
			at := d.Intn(len(b) + 1)
			end := min(len(b), at+d.Intn(3))
			part := make([]byte, d.Intn(3))
			d.Read(part)
			b = slices.Replace(b, at, end, part...)
		}
		holds(t, b)
	}
}

// A second answer of one call is the same, whatever came between.
func TestNothingIsRemembered(t *testing.T) {
	for _, m := range messages() {
		wire.Decode([]byte{2, 1})
		wire.Encode(api.Msg{Kind: api.MsgBreak})
		takes(t, "behind refused ones", m, bytesOf(m))
		takes(t, "once more", m, bytesOf(m))
	}
}
