// Package num is layer 1: see shared/doc/01-num.md.
package num

import (
	"math"
	"math/bits"
)

// What a number in groups is made of.
const (
	groupBits = 7
	groupMask = 1<<groupBits - 1
	more      = 1 << groupBits // another group stands behind this one
	maxGroups = 5              // as many as Get looks at
)

// The numbers of the sum are those of FNV-1a with 32 bits.
const (
	sumStart = 2166136261
	sumTimes = 16777619
)

// Div is a divided by b, rounded down.
func Div(a, b int) int {
	if b < 1 {
		return 0
	}
	q := a / b
	// Go rounds towards 0, which is upwards for numbers below 0.
	if a%b < 0 {
		q--
	}
	return q
}

// Mod is what Div leaves: never below 0.
func Mod(a, b int) int {
	if b < 1 {
		return 0
	}
	r := a % b
	if r < 0 {
		r += b
	}
	return r
}

// Clamp is v, or the bound that it is beyond. Low is asked first: it counts where the bounds cross.
func Clamp(v, low, high int) int {
	if v < low {
		return low
	}
	if v > high {
		return high
	}
	return v
}

// Put is b with a number in groups of seven bits behind it.
func Put(b []byte, n int) []byte {
	many := groups(n)
	// Appending to b itself could write into memory that the caller still has in use behind it.
	out := make([]byte, len(b)+many)
	copy(out, b)
	for i := range many {
		out[len(b)+i] = byte(n&groupMask | more)
		n >>= groupBits
	}
	if many > 0 {
		out[len(out)-1] &= groupMask
	}
	return out
}

// groups is how many groups a number has: none below 0, one at least from there on.
func groups(n int) int {
	if n < 0 {
		return 0
	}
	return max(1, (bits.Len(uint(n))+groupBits-1)/groupBits)
}

// Get is the number that b begins with, and how many bytes it has. Five groups have 35 bits, so an int holds them whatever they are, and one look behind the last group is enough.
func Get(b []byte) (int, int) {
	n := 0
	for i := range min(len(b), maxGroups) {
		n |= int(b[i]&groupMask) << (groupBits * i)
		if b[i] >= more {
			continue
		}
		if n > math.MaxInt32 {
			return 0, 0
		}
		return n, i + 1
	}
	return 0, 0
}

// Sum is a sum of bytes.
func Sum(b []byte) uint32 {
	x := uint32(sumStart)
	for _, c := range b {
		x = (x ^ uint32(c)) * sumTimes
	}
	return x
}
