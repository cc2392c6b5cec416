package scroll

import (
	"bytes"

	"vista/api"
	"vista/block"
)

const (
	// sign is what a header begins with.
	sign = "SCR1"
	// maxGeneration is the last generation.
	maxGeneration = 1 << 30
)

// header is what block 0 says: which half is the scroll's, and under which generation.
type header struct {
	generation, half int
}

// readHeader tells a disk's header, and whether it has one.
func readHeader(d *block.Disk) (header, bool) {
	b, e := d.Read(0)
	if e != api.OK {
		return header{}, false
	}
	h := header{generation: numberIn(b[len(sign):]), half: int(b[len(sign)+numberSize])}
	// A header is written in one way alone: so its sign and its zeros are looked at, too.
	if h.generation < 1 || h.generation > maxGeneration || h.half > 1 || !bytes.Equal(b, h.block()) {
		return header{}, false
	}
	return h, true
}

// nextHeader is that of a disk's next half and next generation. It is false if there are no more generations.
func nextHeader(d *block.Disk) (header, bool) {
	var next header
	if h, ok := readHeader(d); ok {
		next = header{generation: h.generation, half: 1 - h.half}
	}
	for i := range halfSize(d) {
		b, _ := d.Read(halfStart(d, next.half) + i)
		next.generation = max(next.generation, numberIn(b))
	}
	next.generation++
	return next, next.generation <= maxGeneration
}

func (h header) write(d *block.Disk) api.Errno {
	return d.Write(0, h.block())
}

func (h header) block() []byte {
	b := appendNumber([]byte(sign), h.generation)
	return filled(append(b, byte(h.half)))
}

// halfSize is how many blocks each half of a disk has: none, if the disk is too small for a scroll.
func halfSize(d *block.Disk) int {
	return (d.Size() - 1) / 2
}

// halfStart is the first block of a half.
func halfStart(d *block.Disk, half int) int {
	return 1 + half*halfSize(d)
}
