package wire_test

import (
	"bytes"
	"encoding/binary"
	"fmt"
	"math"
	"reflect"
	"slices"
	"testing"

	"vista/api"
	"vista/wire"
)

// model writes messages and notes as the chapter says, of whatever they are made: kinds by their lowest byte, numbers as 64 bits without sign. The number that is the turn-th one, from 0 on, is written by other, if that is there.
type model struct {
	bytes []byte
	count int
	turn  int
	other func(n int) []byte
}

// groups writes a number as the chapter says.
func groups(n int) []byte {
	return binary.AppendUvarint(nil, uint64(n))
}

func (w *model) number(n int) {
	written := groups(n)
	if w.other != nil && w.count == w.turn {
		written = w.other(n)
	}
	w.count++
	w.bytes = append(w.bytes, written...)
}

func (w *model) octet(n int) { w.bytes = append(w.bytes, byte(n)) }

func (w *model) text(s string) {
	w.number(len(s))
	w.bytes = append(w.bytes, s...)
}

func (w *model) key(k api.Key) {
	w.number(k.Dir)
	w.text(k.Name)
}

func (w *model) entry(e api.Entry) {
	w.key(e.Key)
	if e.Neg {
		w.octet(1)
		return
	}
	w.octet(0)
	w.number(e.Node.ID)
	w.octet(e.Node.Kind)
	w.number(e.Node.Mode)
	w.text(e.Node.Target)
}

func (w *model) op(o api.Op) {
	w.octet(o.Kind)
	w.number(o.Dir)
	w.text(o.Name)
	w.number(o.To)
	w.text(o.New)
	w.number(o.Mode)
	w.text(o.Target)
}

func (w *model) message(m api.Msg) {
	w.octet(m.Kind)
	for _, n := range []int{m.Client, m.Life, m.Seq, int(real(m.Mark)), int(imag(m.Mark)), m.Version, int(m.Err)} {
		w.number(n)
	}
	if m.Kind == api.MsgAsk {
		w.op(m.Op)
	}
	if m.Kind == api.MsgReply {
		w.number(len(m.Entries))
		for _, e := range m.Entries {
			w.entry(e)
		}
	}
	if m.Kind == api.MsgBreak {
		w.number(len(m.Keys))
		for _, k := range m.Keys {
			w.key(k)
		}
	}
}

func (w *model) note(n api.Note) {
	w.octet(n.Kind)
	if n.Kind == api.NoteBoot || n.Kind == api.NoteBase {
		w.number(n.Epoch)
	}
	if n.Kind == api.NoteBase {
		w.number(n.Version)
		w.number(n.Next)
	}
	if n.Kind == api.NoteNode {
		w.entry(n.Entry)
	}
	if n.Kind == api.NoteSeen || n.Kind == api.NoteDone {
		for _, x := range []int{n.Client, n.Seen.Life, n.Seen.Seq, int(n.Seen.Err)} {
			w.number(x)
		}
	}
	if n.Kind == api.NoteDone {
		w.op(n.Op)
	}
}

// bytesOf are a message's bytes, as the chapter says.
func bytesOf(m api.Msg) []byte {
	var w model
	w.message(m)
	return w.bytes
}

// bytesOfNote are a note's bytes, as the chapter says.
func bytesOfNote(n api.Note) []byte {
	var w model
	w.note(n)
	return w.bytes
}

// guess reads bytes without a doubt: what is not there is 0, what is too much is left. It tells a message of which these bytes are the bytes, if there is one.
type guess struct{ bytes []byte }

func (r *guess) octet() int {
	if len(r.bytes) == 0 {
		return 0
	}
	b := r.bytes[0]
	r.bytes = r.bytes[1:]
	return int(b)
}

func (r *guess) number() int {
	n, size := binary.Uvarint(r.bytes)
	r.bytes = r.bytes[max(size, 0):]
	return int(n)
}

func (r *guess) text() string {
	size := max(0, min(r.number(), len(r.bytes)))
	s := string(r.bytes[:size])
	r.bytes = r.bytes[size:]
	return s
}

func (r *guess) key() api.Key {
	dir := r.number()
	return api.Key{Dir: dir, Name: r.text()}
}

func (r *guess) entry() api.Entry {
	e := api.Entry{Key: r.key(), Neg: r.octet() != 0}
	if !e.Neg {
		e.Node.ID = r.number()
		e.Node.Kind = r.octet()
		e.Node.Mode = r.number()
		e.Node.Target = r.text()
	}
	return e
}

func (r *guess) op() (o api.Op) {
	o.Kind = r.octet()
	o.Dir = r.number()
	o.Name = r.text()
	o.To = r.number()
	o.New = r.text()
	o.Mode = r.number()
	o.Target = r.text()
	return o
}

func (r *guess) message() (m api.Msg) {
	m.Kind = r.octet()
	m.Client = r.number()
	m.Life = r.number()
	m.Seq = r.number()
	epoch := r.number()
	m.Mark = complex(float64(epoch), float64(r.number()))
	m.Version = r.number()
	m.Err = api.Errno(r.number())
	if m.Kind == api.MsgAsk {
		m.Op = r.op()
	}
	if m.Kind == api.MsgReply {
		for range min(r.number(), 99) {
			m.Entries = append(m.Entries, r.entry())
		}
	}
	if m.Kind == api.MsgBreak {
		for range min(r.number(), 99) {
			m.Keys = append(m.Keys, r.key())
		}
	}
	return m
}

func (r *guess) note() (n api.Note) {
	n.Kind = r.octet()
	switch n.Kind {
	case api.NoteBoot:
		n.Epoch = r.number()
	case api.NoteBase:
		n.Epoch = r.number()
		n.Version = r.number()
		n.Next = r.number()
	case api.NoteNode:
		n.Entry = r.entry()
	case api.NoteSeen, api.NoteDone:
		n.Client = r.number()
		n.Seen.Life = r.number()
		n.Seen.Seq = r.number()
		n.Seen.Err = api.Errno(r.number())
	}
	if n.Kind == api.NoteDone {
		n.Op = r.op()
	}
	return n
}

// numbersAreRight tells whether all of these are from 0 to MaxMark.
func numbersAreRight(ns ...int) bool {
	return !slices.ContainsFunc(ns, func(n int) bool { return n < 0 || n > 1<<40 })
}

// keyIsRight tells whether a key is as the chapter says.
func keyIsRight(k api.Key) bool { return numbersAreRight(k.Dir) && len(k.Name) <= 96 }

// entryIsRight tells whether an entry is as the chapter says.
func entryIsRight(e api.Entry) bool {
	n := e.Node
	if e.Neg {
		return keyIsRight(e.Key) && n == api.Node{}
	}
	return keyIsRight(e.Key) && numbersAreRight(n.ID, n.Mode) && n.Kind >= 1 && n.Kind <= 3 && len(n.Target) <= 96
}

// opIsRight tells whether an op is as the chapter says.
func opIsRight(o api.Op) bool {
	return o.Kind >= 1 && o.Kind <= 11 && numbersAreRight(o.Dir, o.To, o.Mode) && len(o.Name) <= 96 && len(o.New) <= 96 && len(o.Target) <= 96
}

// partIsRight tells whether a mark may have this part.
func partIsRight(x float64) bool {
	return x >= 0 && x <= 1<<40 && x == math.Floor(x)
}

// isPlain tells whether a message is plain, as the chapter says.
func isPlain(m api.Msg) bool {
	if m.Kind < 1 || m.Kind > 4 || !numbersAreRight(m.Client, m.Life, m.Seq, m.Version, int(m.Err)) {
		return false
	}
	if !partIsRight(real(m.Mark)) || !partIsRight(imag(m.Mark)) {
		return false
	}
	if m.Kind == 1 && !opIsRight(m.Op) || m.Kind != 1 && m.Op != (api.Op{}) {
		return false
	}
	if m.Kind == 2 && len(m.Entries) > 48 || m.Kind != 2 && len(m.Entries) > 0 {
		return false
	}
	if m.Kind == 3 && (len(m.Keys) < 1 || len(m.Keys) > 48) || m.Kind != 3 && len(m.Keys) > 0 {
		return false
	}
	wrongEntry := slices.ContainsFunc(m.Entries, func(e api.Entry) bool { return !entryIsRight(e) })
	wrongKey := slices.ContainsFunc(m.Keys, func(k api.Key) bool { return !keyIsRight(k) })
	return !wrongEntry && !wrongKey
}

// isPlainNote tells whether a note is plain, as the chapter says.
func isPlainNote(n api.Note) bool {
	noEntry, noSeen, noOp := n.Entry == api.Entry{}, n.Client == 0 && n.Seen == api.Seen{}, n.Op == api.Op{}
	noBase := n.Version == 0 && n.Next == 0
	if !numbersAreRight(n.Epoch, n.Version, n.Next, n.Client, n.Seen.Life, n.Seen.Seq, int(n.Seen.Err)) {
		return false
	}
	switch n.Kind {
	case 1:
		return noEntry && noSeen && noOp && noBase
	case 2:
		return noEntry && noSeen && noOp
	case 3:
		return noSeen && noOp && noBase && n.Epoch == 0 && !n.Entry.Neg && entryIsRight(n.Entry)
	case 4:
		return noEntry && noOp && noBase && n.Epoch == 0
	case 5:
		return noEntry && noBase && n.Epoch == 0 && opIsRight(n.Op)
	}
	return false
}

// same tells whether two messages are one; a list that is nil and an empty one are.
func same(a, b api.Msg) bool {
	entries, keys := slices.Equal(a.Entries, b.Entries), slices.Equal(a.Keys, b.Keys)
	a.Entries, b.Entries, a.Keys, b.Keys = nil, nil, nil, nil
	return entries && keys && reflect.DeepEqual(a, b)
}

// brief is how bytes are told.
func brief(b []byte) string {
	return fmt.Sprintf("% x", b[:min(len(b), 40)])
}

// takes fails unless a message is written as these bytes, and they are read as it.
func takes(t *testing.T, what string, m api.Msg, want []byte) {
	t.Helper()
	if b, e := wire.Encode(m); e != api.OK || !bytes.Equal(b, want) {
		t.Errorf("%s: Encode: %s (%d bytes), %d, not %s (%d bytes)", what, brief(b), len(b), e, brief(want), len(want))
	}
	if got, e := wire.Decode(want); e != api.OK || !same(got, m) {
		t.Errorf("%s: Decode(%s): %v, %d", what, brief(want), got, e)
	}
}

// takesNote fails unless a note is written as these bytes, and they are read as it.
func takesNote(t *testing.T, what string, n api.Note, want []byte) {
	t.Helper()
	if b, e := wire.Pack(n); e != api.OK || !bytes.Equal(b, want) {
		t.Errorf("%s: Pack: %s (%d bytes), %d, not %s (%d bytes)", what, brief(b), len(b), e, brief(want), len(want))
	}
	if got, e := wire.Unpack(want); e != api.OK || got != n {
		t.Errorf("%s: Unpack(%s): %v, %d", what, brief(want), got, e)
	}
}

// refuses fails unless a message has no bytes.
func refuses(t *testing.T, what string, m api.Msg) {
	t.Helper()
	if b, e := wire.Encode(m); e != api.ErrWire || len(b) != 0 {
		t.Errorf("%s: Encode: %s (%d bytes), %d", what, brief(b), len(b), e)
	}
}

// refusesNote fails unless a note has no bytes.
func refusesNote(t *testing.T, what string, n api.Note) {
	t.Helper()
	if b, e := wire.Pack(n); e != api.ErrWire || len(b) != 0 {
		t.Errorf("%s: Pack: %s (%d bytes), %d", what, brief(b), len(b), e)
	}
}

// refusesBytes fails unless bytes are those of no message.
func refusesBytes(t *testing.T, what string, b []byte) {
	t.Helper()
	if m, e := wire.Decode(b); e != api.ErrWire || !reflect.DeepEqual(m, api.Msg{}) {
		t.Errorf("%s: Decode(%s): %v, %d", what, brief(b), m, e)
	}
}

// refusesNoteBytes fails unless bytes are those of no note.
func refusesNoteBytes(t *testing.T, what string, b []byte) {
	t.Helper()
	if n, e := wire.Unpack(b); e != api.ErrWire || n != (api.Note{}) {
		t.Errorf("%s: Unpack(%s): %v, %d", what, brief(b), n, e)
	}
}
