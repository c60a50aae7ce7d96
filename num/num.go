// Package num is layer 1: arithmetic that tells when it goes too far.
package num

import (
	"math"
	"math/bits"

	"jacinth/api"
)

// The factor and the addend of Mix.
const (
	mixFactor = 2862933555777941757
	mixAddend = 3037000493
)

// Add tells the sum, and whether it is a number.
func Add(a, b int) (int, bool) {
	sum := a + b
	// A sum has wrapped round just when both parts have the sign that it has not.
	if (a^sum)&(b^sum) < 0 {
		return 0, false
	}
	return sum, true
}

// Sub tells the difference, and whether it is a number.
func Sub(a, b int) (int, bool) {
	diff := a - b
	// A difference has wrapped round just when a has neither the sign of b nor that of it.
	if (a^b)&(a^diff) < 0 {
		return 0, false
	}
	return diff, true
}

// Mul tells the product, and whether it is a number.
func Mul(a, b int) (int, bool) {
	high, low := bits.Mul64(magnitude(a), magnitude(b))
	negative := (a < 0) != (b < 0)
	if high != 0 || low > greatest(negative) {
		return 0, false
	}
	if negative {
		// Negated as 64 bits without sign, for 2^63 has no int.
		return int(-low), true
	}
	return int(low), true
}

// magnitude is n without its sign; as 64 bits without sign it is there for -2^63 too.
func magnitude(n int) uint64 {
	if n < 0 {
		return -uint64(n)
	}
	return uint64(n)
}

// greatest is the greatest magnitude of a number: those below 0 go one further.
func greatest(negative bool) uint64 {
	if negative {
		return 1 << 63
	}
	return math.MaxInt64
}

// Down tells the greatest multiple of to that is not above n.
func Down(n, to int) (int, bool) {
	if to < 1 || n < 0 {
		return 0, false
	}
	return n - n%to, true
}

// Up tells the least multiple of to that is not below n.
func Up(n, to int) (int, bool) {
	down, ok := Down(n, to)
	if !ok || down == n {
		return down, ok
	}
	return Add(down, to)
}

// Within tells whether the n numbers from at on lie within the first size ones.
func Within(at, n, size int) bool {
	// What is left behind at is held against n, for at and n together may be no number.
	return min(at, n) >= 0 && at <= size && n <= size-at
}

// Overlap tells whether the n numbers from a on and the m numbers from b on have one in common.
func Overlap(a, n, b, m int) bool {
	if min(a, n, b, m) < 0 || min(n, m) == 0 {
		return false
	}
	// The distance is held against the length, for a range's end may be no number.
	if a <= b {
		return b-a < n
	}
	return a-b < m
}

// Pages tells which pages the n bytes from at on touch: the first one, and how many.
func Pages(at, n int) (first, count int, ok bool) {
	end, ok := Add(at, n)
	if !ok || min(at, n) < 0 {
		return 0, 0, false
	}
	first = at / api.PageSize
	if n == 0 {
		return first, 0, true
	}
	return first, (end-1)/api.PageSize - first + 1, true
}

// Mix tells a number from 0 to 2^63 - 1 that hangs on n alone, and looks drawn.
func Mix(n int) int {
	return int((uint64(n)*mixFactor + mixAddend) & math.MaxInt64)
}
