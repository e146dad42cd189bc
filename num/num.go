// Package num is layer 1: numbers that fit: see shared/doc/01-num.md.
package num

import (
	"math"

	"penfold/api"
)

// greatestMultiple is the greatest multiple of a word that is an int: what is above it can't be rounded up.
const greatestMultiple = math.MaxInt / api.Word * api.Word

// Add is the sum, or ErrOver where it is not an int.
func Add(a, b int) (int, api.Errno) {
	// Each bound is held against the other side, so that nothing wraps round.
	if b > 0 && a > math.MaxInt-b {
		return 0, api.ErrOver
	}
	if b < 0 && a < math.MinInt-b {
		return 0, api.ErrOver
	}
	return a + b, api.OK
}

// Up is the least multiple of a word that is not below n.
func Up(n int) (int, api.Errno) {
	if n < 0 {
		return 0, api.ErrArg
	}
	if n > greatestMultiple {
		return 0, api.ErrOver
	}
	rest := n % api.Word
	if rest == 0 {
		return n, api.OK
	}
	return n - rest + api.Word, api.OK
}

// Words is how many words so many bytes take.
func Words(bytes int) (int, api.Errno) {
	up, err := Up(bytes)
	if err != api.OK {
		return 0, err
	}
	return up / api.Word, api.OK
}

// Within tells whether n is from low to high, with both; of a low above the high nothing is.
func Within(n, low, high int) bool {
	return low <= n && n <= high
}
