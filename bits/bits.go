// Package bits: shifts, conversions, a sum: see doc/01-bits.md.
package bits

import "palisade/api"

const (
	sumStart = 14695981039346656037
	sumPrime = 1099511628211

	// longest is where Double is held, so that a wait stays a count of ticks.
	longest = 1 << 31
)

// Rotl turns x's bits left by n places; by n below 0 it turns them right.
func Rotl(x uint64, n int) uint64 {
	// The lowest six bits of n are n modulo 64, below 0 too; and a shift by
	// all 64 places is 0, so that a turn by nothing needs no case of its own.
	left := uint(n) & 63
	return x<<left | x>>(64-left)
}

// Pack lays a, b, c, d side by side, a in the highest bits.
func Pack(a, b uint8, c uint16, d uint32) uint64 {
	return uint64(a)<<56 | uint64(b)<<48 | uint64(c)<<32 | uint64(d)
}

// Unpack is Pack back.
func Unpack(x uint64) (uint8, uint8, uint16, uint32) {
	return uint8(x >> 56), uint8(x >> 48), uint16(x >> 32), uint32(x)
}

// Narrow reads the lowest bits of x as a number with a sign.
func Narrow(x int64, bits int) int64 {
	// What is shifted back is signed: the highest bit that is kept fills up.
	above := 64 - min(max(bits, 1), 64)
	return x << above >> above
}

// Sum of b's bytes.
func Sum(b []byte) uint64 {
	sum := uint64(sumStart)
	for _, c := range b {
		sum = (sum ^ uint64(c)) * sumPrime
	}
	return sum
}

// Mix is the Sum of the bytes of a and then of b, the highest first.
func Mix(a, b uint64) uint64 {
	var both [16]byte
	for i := range 8 {
		down := 56 - 8*i
		both[i] = byte(a >> down)
		both[8+i] = byte(b >> down)
	}
	return Sum(both[:])
}

// Double is t doubled k times, k held from 0 to MaxDouble, the rest to 2^31.
func Double(t uint32, k int) uint32 {
	// In 64 bits nothing is lost at the top ahead of the comparison.
	wide := uint64(t) << min(max(k, 0), api.MaxDouble)
	return uint32(min(wide, longest))
}
