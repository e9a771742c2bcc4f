// Package tick: time that does not overflow: see DOC.md, chapter 1.
package tick

import (
	"cmp"

	"beadle/api"
)

// Good tells whether a tick may be.
func Good(t int64) bool { return 0 <= t && t <= api.Horizon }

// amount tells whether x may be so many ticks of a window.
func amount(x int64) bool { return 0 <= x && x <= api.MaxPeriod }

// period tells whether p may be a window's length, and so be divided by.
func period(p int64) bool { return 1 <= p && p <= api.MaxPeriod }

// Add adds two.
func Add(a, b int64) (int64, bool) {
	// Held against what is left, as twice Horizon does not fit an int64.
	if !Good(a) || !Good(b) || b > api.Horizon-a {
		return 0, false
	}
	return a + b, true
}

// Sub takes one from another.
func Sub(a, b int64) (int64, bool) {
	if !Good(a) || !Good(b) || b > a {
		return 0, false
	}
	return a - b, true
}

// Mul multiplies two.
func Mul(a, b int64) (int64, bool) {
	if !Good(a) || !Good(b) {
		return 0, false
	}
	// Held against a quotient, as the product could wrap round to a Good one.
	if a != 0 && b > api.Horizon/a {
		return 0, false
	}
	return a * b, true
}

// Share tells a share of some ticks.
func Share(x, q, p int64) (int64, bool) {
	if !amount(x) || !period(p) || q < 0 || q > p {
		return 0, false
	}
	// MaxPeriod squared is Horizon, so the product fits.
	return x * q / p, true
}

// Cmp compares two shares.
func Cmp(a, b, c, d int64) (int, bool) {
	if !amount(a) || !period(b) || !amount(c) || !period(d) {
		return 0, false
	}
	// Crosswise, as a division would lose what tells close shares apart.
	return cmp.Compare(a*d, c*b), true
}

// Windows tells how many periods fit.
func Windows(x, p int64) (int64, bool) {
	if !Good(x) || !period(p) {
		return 0, false
	}
	return x / p, true
}

// Up tells the next one above.
func Up(t, d, p int64) (int64, bool) {
	if !Good(t) || !Good(d) || !period(p) {
		return 0, false
	}
	if d > t {
		return d, true
	}
	// At most t and p, so it fits an int64 even where it is past Horizon.
	next := d + ((t-d)/p+1)*p
	if !Good(next) {
		return 0, false
	}
	return next, true
}
