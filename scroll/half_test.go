package scroll_test

import (
	"bytes"
	"slices"
	"testing"

	"vista/api"
)

// P7.2: what a half holds.

func TestOpenRecordsOfAllSizes(t *testing.T) {
	for half := range 2 {
		for size := 1; size <= api.MaxRecord; size++ {
			r := record(size, size)
			d := disk(t, 25)
			lay(t, d, 0, header(3, byte(half)))
			at := 1 + 12*half
			lay(t, d, at, pieces(3, 0, []byte{1})...)
			lay(t, d, at+1, pieces(3, 1, r)...)
			blocks := (size + 52) / 53
			lay(t, d, at+1+blocks, pieces(3, 2, []byte{2})...)
			s := opened(t, "all sizes", d, []byte{1}, r, []byte{2})
			state(t, "all sizes", s, 3, 12, 12-2-blocks)
		}
	}
}

func TestOpenManyRecords(t *testing.T) {
	// More records than a byte counts.
	d := disk(t, api.MaxBlocks)
	lay(t, d, 0, header(9, 1))
	var want [][]byte
	for i := range 511 {
		want = append(want, record(1+i%53, i))
		lay(t, d, 512+i, pieces(9, i, want[i])...)
	}
	state(t, "full", opened(t, "full", d, want...), 9, 511, 0)
	lay(t, d, 512+300, piece(9, 300-256, 0, 1, want[300]))
	state(t, "a wrong number", opened(t, "a wrong number", d, want[:300]...), 9, 511, 211)
}

// middle is a disk of halves of 8 blocks whose half 1 holds, under generation 0x01020304, a record of one piece, one of 3 and one of one; and these.
func middle(t *testing.T, turn func(blocks [][]byte)) ([][]byte, func(want int, what string)) {
	t.Helper()
	const generation = 0x01020304
	records := [][]byte{record(20, 1), record(150, 2), record(53, 3)}
	var blocks [][]byte
	for i, r := range records {
		blocks = append(blocks, pieces(generation, i, r)...)
	}
	turn(blocks)
	d := disk(t, 17)
	lay(t, d, 0, header(generation, 1))
	lay(t, d, 9, blocks...)
	return records, func(want int, what string) {
		t.Helper()
		s := opened(t, what, d, records[:want]...)
		room := 8
		for _, r := range records[:want] {
			room -= (len(r) + 52) / 53
		}
		state(t, what, s, generation, 8, room)
	}
}

// recordOf is the number of the record that a block of middle belongs to.
var recordOf = []int{0, 1, 1, 1, 2}

func TestOpenPieceOfOneOtherByte(t *testing.T) {
	for i := range recordOf {
		for at := range 10 {
			for by := 1; by < 256; by++ {
				value := byte(0)
				records, tells := middle(t, func(blocks [][]byte) {
					blocks[i][at] += byte(by)
					value = blocks[i][at]
				})
				if i == 1 && at == 9 && value == 1 {
					// A first piece that is said to be the only one is a record.
					records[1] = records[1][:53]
					tells(2, "a piece of its own")
					continue
				}
				tells(recordOf[i], "a piece with another label")
			}
		}
	}
}

func TestOpenPieceOfAnotherLength(t *testing.T) {
	for i := range recordOf {
		for length := range 256 {
			lastPiece := i == 0 || i == 3 || i == 4
			records, tells := middle(t, func(blocks [][]byte) { blocks[i][10] = byte(length) })
			if length == 0 || length > 53 || length < 53 && !lastPiece {
				tells(recordOf[i], "a piece of a wrong length")
				continue
			}
			if !lastPiece {
				tells(3, "a piece of its length")
				continue
			}
			// The last piece may have any length; what lies behind its bytes then belongs to them.
			n := recordOf[i]
			before := len(records[n]) / 54 * 53
			b := append(bytes.Clone(records[n][before:]), make([]byte, 53)...)
			records[n] = append(bytes.Clone(records[n][:before]), b[:length]...)
			tells(3, "a piece of another length")
		}
	}
}

func TestOpenDoesNotLookBehindPieces(t *testing.T) {
	_, tells := middle(t, func(blocks [][]byte) {
		for _, b := range blocks {
			for i := 11 + int(b[10]); i < len(b); i++ {
				b[i] = 0xee
			}
		}
	})
	tells(3, "bytes behind the pieces")
}

func TestOpenCountsOfPieces(t *testing.T) {
	for count := range 256 {
		d := disk(t, api.MaxBlocks)
		lay(t, d, 0, header(2, 0))
		r := record(53*max(count, 1), count)
		for i, part := range slices.Collect(slices.Chunk(r, 53)) {
			lay(t, d, 1+i, piece(2, 0, byte(i), byte(count), part))
		}
		lay(t, d, 1+max(count, 1), piece(2, 1, 0, 1, []byte{4}))
		if count < 1 || count > 8 {
			state(t, "a wrong count", opened(t, "a wrong count", d), 2, 511, 511)
			continue
		}
		state(t, "a count", opened(t, "a count", d, r, []byte{4}), 2, 511, 510-count)
	}
}

func TestOpenMixedPieces(t *testing.T) {
	for what, turn := range map[string]func(blocks [][]byte){
		"pieces of unlike counts":  func(b [][]byte) { b[3][9] = 4 },
		"pieces the wrong way":     func(b [][]byte) { b[2], b[3] = b[3], b[2] },
		"a piece twice":            func(b [][]byte) { b[2] = b[1] },
		"a piece that is missing":  func(b [][]byte) { b[2] = filled() },
		"all pieces count 4":       func(b [][]byte) { b[1][9], b[2][9], b[3][9] = 4, 4, 4 },
		"another number":           func(b [][]byte) { b[1][4], b[2][4], b[3][4] = 2, 2, 2 },
		"another number's piece":   func(b [][]byte) { b[2][4] = 0 },
		"an earlier generation":    func(b [][]byte) { b[1][0], b[2][0], b[3][0] = 3, 3, 3 },
		"a later generation":       func(b [][]byte) { b[1][0], b[2][0], b[3][0] = 5, 5, 5 },
		"a short one in between":   func(b [][]byte) { b[2][10] = 52 },
		"a first one of no bytes":  func(b [][]byte) { b[1][10] = 0 },
		"a last one of no bytes":   func(b [][]byte) { b[3][10] = 0 },
		"a last one of many bytes": func(b [][]byte) { b[3][10] = 54 },
	} {
		_, tells := middle(t, turn)
		tells(1, what)
	}
	// Two pieces of 53 bytes are a record; the third one then stands where the next record should.
	records, tells := middle(t, func(b [][]byte) { b[1][9], b[2][9], b[3][9] = 2, 2, 2 })
	records[1] = records[1][:106]
	tells(2, "all pieces count 2")
}

func TestOpenRecordBeyondItsHalf(t *testing.T) {
	for half := range 2 {
		for _, n := range []int{11, 12, 13} {
			size := (n - 1) / 2
			for _, count := range []int{2, 3, 8} {
				for inside := 1; inside < count && inside <= size; inside++ {
					d := disk(t, n)
					lay(t, d, 0, header(7, byte(half)))
					at := 1 + half*size
					var want [][]byte
					for i := range size - inside {
						want = append(want, record(5, i))
						lay(t, d, at+i, pieces(7, i, want[i])...)
					}
					// As many of its pieces as the disk has blocks for.
					blocks := pieces(7, len(want), record(53*count, 9))
					from := at + size - inside
					lay(t, d, from, blocks[:min(count, n-from)]...)
					state(t, "beyond", opened(t, "beyond", d, want...), 7, size, inside)
				}
			}
		}
	}
}

func TestOpenHalfFilledToItsLastBlock(t *testing.T) {
	for half := range 2 {
		for _, n := range []int{9, 10} {
			for count := 1; count <= 4; count++ {
				d := disk(t, n)
				lay(t, d, 0, header(7, byte(half)))
				var want [][]byte
				at := 1 + 4*half
				for i := range 4 - count {
					want = append(want, record(5, i))
					lay(t, d, at+i, pieces(7, i, want[i])...)
				}
				want = append(want, record(53*count-1, 9))
				lay(t, d, at+4-count, pieces(7, 4-count, want[4-count])...)
				// What would be the next record lies in the other half, or in no half.
				if beyond := at + 4; beyond < n {
					lay(t, d, beyond, piece(7, len(want), 0, 1, []byte{1}))
				}
				state(t, "full", opened(t, "full", d, want...), 7, 4, 0)
			}
		}
	}
}

func TestOpenReadsTheHeadersHalfAlone(t *testing.T) {
	for half := range 2 {
		d := disk(t, 9)
		lay(t, d, 0, header(7, byte(half)))
		for i := range 8 {
			lay(t, d, 1+i, piece(7, i%4, 0, 1, []byte{byte(i)}))
		}
		h := byte(4 * half)
		opened(t, "both halves", d, []byte{h}, []byte{h + 1}, []byte{h + 2}, []byte{h + 3})
	}
}
