package sample

import (
	"gangsaw/api"
	"gangsaw/fraction"
)

// Confidence returns the probability that at least k of n samples lie below a quantile, for a fraction.
func Confidence(n, k int, p api.Frac) (api.Frac, api.Errno) {
	if !isProbability(p) || n < 1 || n > MaxSamples || k < 0 || k > n {
		return api.Frac{}, api.ErrInvalid
	}
	whole, fits := power(p.Den, n)
	if !fits {
		return api.Frac{}, api.ErrRange
	}
	return fraction.New(successes(n, k, p), whole)
}

// Least returns the least number of samples with which the confidence of a rank is at least a fraction.
func Least(k int, p, confidence api.Frac) (int, api.Errno) {
	if !isProbability(p) || !isProbability(confidence) || k < 1 || k > MaxSamples {
		return 0, api.ErrInvalid
	}
	for n := k; n <= MaxSamples; n++ {
		c, e := Confidence(n, k, p)
		if e != api.OK {
			return 0, api.ErrNone
		}
		if fraction.Cmp(c, confidence) >= 0 {
			return n, api.OK
		}
	}
	return 0, api.ErrNone
}

func isProbability(f api.Frac) bool { return fraction.Valid(f) && f.Num >= 0 && f.Num <= f.Den }

// power returns a power of a number that is not negative, if it is less than the bound of fractions.
func power(base int64, n int) (int64, bool) {
	p := int64(1)
	for range n {
		if base > 0 && p > (fraction.Bound-1)/base {
			return 0, false
		}
		p *= base
	}
	return p, true
}

// successes returns the confidence, multiplied by the power of the Den. No product exceeds this power unless p is 0 or 1; then they are small.
func successes(n, k int, p api.Frac) int64 {
	var sum int64
	ways := int64(1)
	for i := range n + 1 {
		if i >= k {
			hits, _ := power(p.Num, i)
			misses, _ := power(p.Den-p.Num, n-i)
			sum += ways * hits * misses
		}
		ways = ways * int64(n-i) / int64(i+1)
	}
	return sum
}
