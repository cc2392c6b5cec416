package scroll_test

import (
	"encoding/binary"
	"math/rand"
	"slices"
	"testing"

	"vista/api"
	"vista/block"
	"vista/scroll"
)

// paper is a disk as the chapter tells it: blocks, and how many writes are left (below 0: without end).
type paper struct {
	blocks [][]byte
	left   int
}

func (p *paper) write(i int, b []byte) api.Errno {
	if p.left == 0 {
		return api.ErrPower
	}
	p.left = max(p.left-1, -1)
	p.blocks[i] = b
	return api.OK
}

func (p *paper) half() int { return (len(p.blocks) - 1) / 2 }

// header tells the generation and the half of block 0; the generation is 0 if it is no header.
func (p *paper) header() (generation, half int) {
	generation, half = int(binary.LittleEndian.Uint32(p.blocks[0][4:])), int(p.blocks[0][8])
	if generation < 1 || generation > last || half > 1 || !slices.Equal(p.blocks[0], header(uint32(generation), byte(half))) {
		return 0, 0
	}
	return generation, half
}

func (p *paper) next() (generation, half int) {
	generation, half = p.header()
	if generation > 0 {
		half = 1 - half
	}
	for _, b := range p.blocks[1+half*p.half():][:p.half()] {
		generation = max(generation, int(binary.LittleEndian.Uint32(b)))
	}
	return generation + 1, half
}

func (p *paper) format() api.Errno {
	generation, half := p.next()
	if generation > last {
		return api.ErrScroll
	}
	return p.write(0, header(uint32(generation), byte(half)))
}

// draft is a scroll as the chapter tells it.
type draft struct {
	generation, half, records, used int
}

// first is the record that some blocks begin with; nil, if there is none of that generation and number.
func first(blocks [][]byte, generation, number int) []byte {
	if len(blocks) == 0 {
		return nil
	}
	count := int(blocks[0][9])
	if count < 1 || count > 8 || count > len(blocks) {
		return nil
	}
	var r []byte
	for i, b := range blocks[:count] {
		size := int(b[10])
		switch {
		case int(binary.LittleEndian.Uint32(b)) != generation, int(binary.LittleEndian.Uint32(b[4:])) != number:
			return nil
		case int(b[8]) != i, int(b[9]) != count:
			return nil
		case size == 0, size > 53, size < 53 && i < count-1:
			return nil
		}
		r = append(r, b[11:11+size]...)
	}
	return r
}

func (p *paper) open() (*draft, [][]byte, api.Errno) {
	generation, half := p.header()
	if generation == 0 {
		return nil, nil, api.ErrScroll
	}
	s := &draft{generation: generation, half: half}
	var told [][]byte
	blocks := p.blocks[1+half*p.half():][:p.half()]
	for r := first(blocks, generation, 0); r != nil; r = first(blocks[s.used:], generation, s.records) {
		told = append(told, r)
		s.records++
		s.used += (len(r) + 52) / 53
	}
	return s, told, api.OK
}

func (p *paper) add(s draft, r []byte) (draft, api.Errno) {
	for i, b := range pieces(s.generation, s.records, r) {
		if e := p.write(1+s.half*p.half()+s.used+i, b); e != api.OK {
			return s, e
		}
	}
	s.records++
	s.used += (len(r) + 52) / 53
	return s, api.OK
}

func (p *paper) append(s *draft, r []byte) (e api.Errno) {
	if len(r) == 0 || len(r) > 424 {
		return api.ErrRecord
	}
	if (len(r)+52)/53 > p.half()-s.used {
		return api.ErrFull
	}
	*s, e = p.add(*s, r)
	return e
}

func (p *paper) turn(s *draft, records [][]byte) (e api.Errno) {
	sum := 0
	for _, r := range records {
		if len(r) == 0 || len(r) > 424 {
			return api.ErrRecord
		}
		sum += (len(r) + 52) / 53
	}
	generation, half := p.next()
	switch {
	case sum > p.half():
		return api.ErrFull
	case generation > last:
		return api.ErrScroll
	}
	anew := draft{generation: generation, half: half}
	for _, r := range records {
		if anew, e = p.add(anew, r); e != api.OK {
			return e
		}
	}
	if e = p.write(0, header(uint32(generation), byte(half))); e == api.OK {
		*s = anew
	}
	return e
}

// pair is a disk with a scroll, and both as the chapter tells them.
type pair struct {
	r     *rand.Rand
	d     *block.Disk
	s     *scroll.Scroll
	paper *paper
	draft *draft
}

// size is a record's size, often one at which something turns.
func (p *pair) size() int {
	if p.r.Intn(3) == 0 {
		return []int{0, 1, 53, 54, 106, 107, 424, 425}[p.r.Intn(8)]
	}
	return 1 + p.r.Intn(53*(1+p.r.Intn(4)))
}

// scribble is a block that might stand on such a disk, or nearly.
func (p *pair) scribble() []byte {
	generation := p.draft.generation + p.r.Intn(4) - 1
	if p.r.Intn(20) == 0 {
		generation = last - p.r.Intn(3)
	}
	if p.r.Intn(3) == 0 {
		return header(uint32(generation), byte(p.r.Intn(2)))
	}
	blocks := pieces(generation, p.r.Intn(4), record(1+p.r.Intn(160), p.r.Int()))
	b := blocks[p.r.Intn(len(blocks))]
	if p.r.Intn(3) == 0 {
		b[p.r.Intn(12)] = byte(p.r.Intn(10))
	}
	return b
}

// step does one thing to both.
func (p *pair) step(t *testing.T) {
	t.Helper()
	switch what := p.r.Intn(20); what {
	case 0:
		wants(t, "Format", scroll.Format(p.d), p.paper.format())
	case 1, 2, 3:
		p.open(t)
	case 4, 5, 6:
		p.d.Power()
		p.paper.left = p.r.Intn(6)
		p.d.Fuse(p.paper.left)
	case 7, 8:
		p.d.Power()
		p.paper.left = -1
	case 9, 10:
		i, b := p.r.Intn(p.d.Size()), p.scribble()
		wants(t, "Write", p.d.Write(i, b), p.paper.write(i, b))
	case 11, 12, 13:
		records := make([][]byte, p.r.Intn(4))
		for i := range records {
			records[i] = record(p.size(), p.r.Int())
		}
		wants(t, "Turn", p.s.Turn(records), p.paper.turn(p.draft, records))
	default:
		r := record(p.size(), p.r.Int())
		wants(t, "Append", p.s.Append(r), p.paper.append(p.draft, r))
	}
}

// open opens both anew; where there is no header the old scrolls are gone on with.
func (p *pair) open(t *testing.T) {
	t.Helper()
	s, told, e := scroll.Open(p.d)
	draft, want, wantE := p.paper.open()
	wants(t, "Open", e, wantE)
	if !same(told, want) {
		t.Errorf("Open: %v, not %v", told, want)
	}
	if e == api.OK && wantE == api.OK {
		p.s, p.draft = s, draft
	}
}

func TestMadeUpScripts(t *testing.T) {
	for seed := range 3000 {
		r := rand.New(rand.NewSource(int64(seed)))
		n := 3 + r.Intn(18)
		d, s := formatted(t, n)
		p := &pair{r: r, d: d, s: s, paper: &paper{blocks: image(d), left: -1}, draft: &draft{generation: 1}}
		for range 60 {
			p.step(t)
			state(t, "a script", p.s, p.draft.generation, (n-1)/2, (n-1)/2-p.draft.used)
			holds(t, "a script", d, p.paper.blocks)
			if t.Failed() {
				t.Fatalf("at the seed %d", seed)
			}
		}
		p.open(t)
	}
}
