// Package word is layer 1: see shared/doc/01-word.md.
package word

import "withy/api"

// size is how many bits a word has.
const size = 64

// some tells whether n bits from at on are some bits of a word. It holds at against a difference, because a sum might wrap round.
func some(at, n int) bool {
	return n >= 1 && at >= 0 && at <= size-n
}

// low is the word in which the lowest n bits are set, of an n from 1 to 64.
func low(n int) uint64 {
	return ^uint64(0) >> (size - n)
}

// Get is the number of some bits.
func Get(w uint64, at, n int) uint64 {
	if !some(at, n) {
		return 0
	}
	return w >> at & low(n)
}

// Set is a word of which some bits are others.
func Set(w uint64, at, n int, v uint64) uint64 {
	if !some(at, n) {
		return w
	}
	mask := low(n) << at
	return w&^mask | v<<at&mask
}

// Fits tells whether a number has no more bits.
func Fits(v uint64, n int) bool {
	return n >= 0 && v>>n == 0
}

// Pack is the word of some values.
func Pack(l []api.Bits) (uint64, bool) {
	w, at := uint64(0), 0
	for _, b := range l {
		if !some(at, b.N) || !Fits(b.V, b.N) {
			return 0, false
		}
		w = Set(w, at, b.N, b.V)
		at += b.N
	}
	return w, true
}

// Unpack is the values of a word.
func Unpack(w uint64, sizes []int) ([]uint64, bool) {
	var l []uint64
	at := 0
	for _, n := range sizes {
		if !some(at, n) {
			return nil, false
		}
		l = append(l, Get(w, at, n))
		at += n
	}
	return l, true
}
