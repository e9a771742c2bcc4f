package win

import (
	"math"
	"math/big"
	"testing"

	"beadle/api"
)

// bigOf is a wide number as one of any size.
func bigOf(a wide) *big.Int {
	all := new(big.Int)
	for i := len(a) - 1; i >= 0; i-- {
		all.Lsh(all, 64)
		all.Or(all, new(big.Int).SetUint64(a[i]))
	}
	return all
}

// wides are some whose sums and products go from word to word: they leave one
// word of room.
func wides() []wide {
	lot := lots(135)
	words := []uint64{0, 1, 2, 1 << 31, 1<<32 - 1, 1 << 63, math.MaxUint64, math.MaxUint64 - 1, math.MaxUint64 / 3, math.MaxUint64/3 + 1, math.MaxUint64 / 5}
	some := []wide{{}, {1}, {0, 1}, {math.MaxUint64, math.MaxUint64 / 3}}
	for _, n := range []int{1, 2, 3, 4, len(wide{}) - 1} {
		for range 40 {
			var a wide
			for i := range n {
				a[i] = words[lot.below(int64(len(words)))]
			}
			some = append(some, a)
		}
	}
	return some
}

func TestWide(t *testing.T) {
	for _, a := range wides() {
		for _, b := range wides() {
			if got, want := bigOf(plus(a, b)), new(big.Int).Add(bigOf(a), bigOf(b)); got.Cmp(want) != 0 {
				t.Fatalf("P13.1: plus(%d, %d): %d", bigOf(a), bigOf(b), got)
			}
			rest, ok := minus(a, b)
			want := new(big.Int).Sub(bigOf(a), bigOf(b))
			if ok != (want.Sign() >= 0) || ok && bigOf(rest).Cmp(want) != 0 {
				t.Fatalf("P13.1: minus(%d, %d): %d, %v", bigOf(a), bigOf(b), bigOf(rest), ok)
			}
		}
		for _, by := range []int64{1, 2, 3, 5, 1<<31 - 1, api.MaxPeriod} {
			if got, want := bigOf(times(a, by)), new(big.Int).Mul(bigOf(a), big.NewInt(by)); got.Cmp(want) != 0 {
				t.Fatalf("P13.1: times(%d, %d): %d", bigOf(a), by, got)
			}
		}
	}
}
