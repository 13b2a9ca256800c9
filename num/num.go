// Package num: numbers that are checked. See doc/01-num.md.
package num

import (
	"math"
	"math/bits"
)

// Add: the bounds are asked ahead of the sum, which would go round without a word.
func Add(a, b int64) (int64, bool) {
	switch {
	case b > 0 && a > math.MaxInt64-b:
		fallthrough
	case b < 0 && a < math.MinInt64-b:
		return 0, false
	}
	return a + b, true
}

// Sub is not Add of -b: the least number has no opposite.
func Sub(a, b int64) (int64, bool) {
	switch {
	case b < 0 && a > math.MaxInt64+b:
		fallthrough
	case b > 0 && a < math.MinInt64+b:
		return 0, false
	}
	return a - b, true
}

// Mul goes by sizes: their product has 128 bits, so that nothing is lost ahead of the check.
func Mul(a, b int64) (int64, bool) {
	over, n := bits.Mul64(size(a), size(b))
	if over != 0 {
		return 0, false
	}
	return signed(n, (a < 0) != (b < 0))
}

// Floor mends what Go rounds toward 0: a remainder that has not b's sign means that it was rounded up.
func Floor(a, b int64) (int64, bool) {
	if !hasQuotient(a, b) {
		return 0, false
	}
	q, r := a/b, a%b
	switch {
	case r > 0 && b < 0:
		fallthrough
	case r < 0 && b > 0:
		q--
	}
	return q, true
}

// Ceil mends what Go rounds toward 0: a remainder that has b's sign means that it was rounded down.
func Ceil(a, b int64) (int64, bool) {
	if !hasQuotient(a, b) {
		return 0, false
	}
	q, r := a/b, a%b
	switch {
	case r > 0 && b > 0:
		fallthrough
	case r < 0 && b < 0:
		q++
	}
	return q, true
}

// Gcd answers a uint64, since the least number's size is no int64.
func Gcd(a, b int64) uint64 {
	x, y := size(a), size(b)
	for y != 0 {
		x, y = y, x%y
	}
	return x
}

// Times stops one short of all 2^64 turns, which no uint64 holds.
func Times(lo, hi, step int64) uint64 {
	n, ok := stepsDone(lo, hi, step)
	switch {
	case !ok:
		return 0
	case n == math.MaxUint64:
		return n
	}
	return n + 1
}

// Last goes round on the way, where the steps together are beyond 64 bits; the index itself never is.
func Last(lo, hi, step int64) int64 {
	n, ok := stepsDone(lo, hi, step)
	if !ok {
		return lo
	}
	return int64(uint64(lo) + n*uint64(step))
}

// stepsDone tells how often a loop steps on behind its first turn; false: it has no turn at all.
// It counts steps and not turns, since those of a loop over all numbers fit.
func stepsDone(lo, hi, step int64) (uint64, bool) {
	switch {
	case step < 0:
		lo, hi = hi, lo // downward it is the way up, walked from the other end
		fallthrough
	case step > 0:
		if lo > hi {
			return 0, false
		}
		return (uint64(hi) - uint64(lo)) / size(step), true
	}
	return 0, false
}

// hasQuotient keeps from division what has no answer: by 0, and the one quotient that is too great.
func hasQuotient(a, b int64) bool {
	switch {
	case b == 0:
		fallthrough
	case b == -1 && a == math.MinInt64:
		return false
	}
	return true
}

// size is unsigned, since the least number's size is no int64.
func size(a int64) uint64 {
	if a < 0 {
		return -uint64(a)
	}
	return uint64(a)
}

// signed gives a size its sign: below 0 there is room for one more than above.
func signed(n uint64, below bool) (int64, bool) {
	switch {
	case n > 1<<63:
		fallthrough
	case n == 1<<63 && !below:
		return 0, false
	case below:
		n = -n
	}
	return int64(n), true
}
