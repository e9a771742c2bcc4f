package win

import (
	"math/bits"

	"beadle/api"
)

// wide is a number of many words, the least one first. A P is below 2^32, so
// that half a word for each of 2 MaxServers of them holds their product; as
// none is above 2^31, it holds twice that as well.
type wide [api.MaxServers]uint64

// plus adds two.
func plus(a, b wide) wide {
	var carry uint64
	for i := range a {
		a[i], carry = bits.Add64(a[i], b[i], carry)
	}
	return a
}

// minus takes one from another: false, if there is not as much.
func minus(a, b wide) (wide, bool) {
	var borrow uint64
	for i := range a {
		a[i], borrow = bits.Sub64(a[i], b[i], borrow)
	}
	return a, borrow == 0
}

// times multiplies one by a number above 0.
func times(a wide, by int64) wide {
	var above uint64
	for i := range a {
		high, low := bits.Mul64(a[i], uint64(by))
		sum, carry := bits.Add64(low, above, 0)
		a[i], above = sum, high+carry
	}
	return a
}
