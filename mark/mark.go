// Package mark is layer 1: marks, places in a stream of breaks, as complex numbers. See shared/doc/01-mark.md.
package mark

import (
	"math"

	"vista/api"
)

// At is the mark of an epoch and a number.
func At(epoch, number int) (complex128, api.Errno) {
	// Held against the limit as ints: a float64 would round a great one.
	if !within(epoch) || !within(number) {
		return 0, api.ErrArg
	}
	return complex(float64(epoch), float64(number)), api.OK
}

// Good tells whether a number is a mark.
func Good(m complex128) bool {
	return whole(real(m)) && whole(imag(m))
}

// Epoch is a mark's epoch.
func Epoch(m complex128) int {
	if !Good(m) {
		return 0
	}
	return int(real(m))
}

// Number is a mark's number.
func Number(m complex128) int {
	if !Good(m) {
		return 0
	}
	return int(imag(m))
}

// Next is the mark behind a mark.
func Next(m complex128) (complex128, api.Errno) {
	return step(m, m+1i)
}

// Restart is the first mark of the next epoch.
func Restart(m complex128) (complex128, api.Errno) {
	return step(m, complex(real(m)+1, 0))
}

// Gap tells how many marks lie between two.
func Gap(from, to complex128) (int, bool) {
	if !Good(from) || !Good(to) || real(from) != real(to) || imag(from) > imag(to) {
		return 0, false
	}
	return Number(to) - Number(from), true
}

// Later tells whether a is later than b.
func Later(a, b complex128) bool {
	if !Good(a) || !Good(b) {
		return false
	}
	if real(a) != real(b) {
		return real(a) > real(b)
	}
	return imag(a) > imag(b)
}

// Last is the latest one of marks.
func Last(ms ...complex128) (complex128, bool) {
	var last complex128
	found := false
	for _, m := range ms {
		if Good(m) && (!found || Later(m, last)) {
			last, found = plain(m), true
		}
	}
	return last, found
}

// Span tells how far marks lie apart.
func Span(ms ...complex128) complex128 {
	var least, most complex128
	found := false
	for _, m := range ms {
		if !Good(m) {
			continue
		}
		if !found {
			least, most, found = m, m, true
		}
		least = complex(min(real(least), real(m)), min(imag(least), imag(m)))
		most = complex(max(real(most), real(m)), max(imag(most), imag(m)))
	}
	return most - least
}

// within tells whether a mark may have this part.
func within(part int) bool {
	return part >= 0 && part <= api.MaxMark
}

// whole tells whether a mark may have this part; of NaN no comparison holds.
func whole(part float64) bool {
	return part >= 0 && part <= api.MaxMark && part == math.Trunc(part)
}

// step answers a mark that was reached from another one. Both are asked: what is no mark may lie just ahead of one.
func step(from, to complex128) (complex128, api.Errno) {
	if !Good(from) || !Good(to) {
		return 0, api.ErrArg
	}
	return to, api.OK
}

// plain is a good mark without -0, so that of two equal marks it can't be told which one was answered.
func plain(m complex128) complex128 {
	return complex(float64(Epoch(m)), float64(Number(m)))
}
