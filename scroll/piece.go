package scroll

import (
	"bytes"

	"vista/api"
)

const (
	numberSize = 4
	// countAt and sizeAt are the places in a block of how many pieces the record has, and how many bytes this one.
	countAt   = 2*numberSize + 1
	sizeAt    = countAt + 1
	pieceAt   = sizeAt + 1
	pieceSize = api.BlockSize - pieceAt
	maxPieces = (api.MaxRecord + pieceSize - 1) / pieceSize
)

// label says which piece of which record a block holds.
type label struct {
	generation, record, piece, count int
}

// cut is the i-th piece of a record. Its room ends where it does, so that nothing that is laid behind it falls into the record.
func cut(record []byte, i int) []byte {
	from := i * pieceSize
	to := min(from+pieceSize, len(record))
	return record[from:to:to]
}

func (l label) block(piece []byte) []byte {
	b := append(l.head(), byte(len(piece)))
	return filled(append(b, piece...))
}

// pieceIn is the piece that a block holds: no bytes, if it does not hold that of this label.
func (l label) pieceIn(b []byte) []byte {
	size := int(b[sizeAt])
	if l.count < 1 || l.count > maxPieces || !bytes.Equal(b[:sizeAt], l.head()) || size > pieceSize {
		return nil
	}
	if last := l.piece == l.count-1; size < pieceSize && !last {
		return nil
	}
	end := pieceAt + size
	return b[pieceAt:end:end]
}

// head is what stands in a block ahead of a piece's size.
func (l label) head() []byte {
	b := appendNumber(nil, l.generation)
	b = appendNumber(b, l.record)
	return append(b, byte(l.piece), byte(l.count))
}

// countIn is how many pieces the record of a block is said to have.
func countIn(b []byte) int {
	return int(b[countAt])
}

// filled is a whole block that begins with these bytes.
func filled(start []byte) []byte {
	b := make([]byte, api.BlockSize)
	copy(b, start)
	return b
}

// appendNumber writes a number behind the bytes, its lowest byte first.
func appendNumber(b []byte, n int) []byte {
	for range numberSize {
		b = append(b, byte(n))
		n >>= 8
	}
	return b
}

// numberIn is the number that the bytes begin with.
func numberIn(b []byte) int {
	n := 0
	for i := range numberSize {
		n |= int(b[i]) << (8 * i)
	}
	return n
}
