// Package num: see DOC.md, chapter 1.
package num

import (
	"math/bits"

	"rickyard/api"
)

const (
	// maxSize is the greatest power of 2 that an int holds.
	maxSize = 1 << 62
	// maxReach is half of it, so that an address plus a length is no more than maxSize.
	maxReach = 1 << 61
)

// Pow reports whether n is a power of 2 from 1 to 2^62.
func Pow(n int) bool {
	return n > 0 && n&(n-1) == 0
}

// Log returns the least k from 0 on for which 2^k is at least n.
func Log(n int) int {
	if n < 1 {
		return 0
	}
	return bits.Len64(uint64(n - 1))
}

// Ceil returns n / m, rounded up, and 0 if n or m is less than 1.
func Ceil(n, m int) int {
	if n < 1 || m < 1 {
		return 0
	}
	// n + m - 1 could wrap round; this cannot.
	return (n-1)/m + 1
}

// Align returns the least multiple of m that is at least n, if there is one up to 2^62.
func Align(n, m int) (int, bool) {
	if n < 0 || m < 1 {
		return 0, false
	}
	times := Ceil(n, m)
	// The bound is divided, as the product could wrap round.
	if times > maxSize/m {
		return 0, false
	}
	return times * m, true
}

// Page returns the page that contains an address, and -1 for a negative address.
func Page(at int) int {
	if at < 0 {
		return -1
	}
	return at / api.PageWords
}

// Over reports whether the n words from at on and the m words from to on have a word in common.
func Over(at, n, to, m int) bool {
	if !inReach(at, n) || !inReach(to, m) {
		return false
	}
	return at < to+m && to < at+n
}

// inReach reports whether Over speaks of the n words from at on.
func inReach(at, n int) bool {
	return at >= 0 && at <= maxReach && n >= 1 && n <= maxReach
}
