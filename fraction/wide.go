package fraction

import "math/bits"

// sumOfProducts returns the sign and the magnitude of a * p + b * q.
func sumOfProducts(a int64, p uint64, b int64, q uint64) (bool, wide) {
	x, y := product(magnitude(a), p), product(magnitude(b), q)
	switch {
	case (a < 0) == (b < 0):
		return a < 0, x.plus(y)
	case x.less(y):
		return b < 0, y.minus(x)
	}
	return a < 0, x.minus(y)
}

// wide is a number of 128 bits.
type wide struct {
	hi, lo uint64
}

func product(a, b uint64) wide {
	hi, lo := bits.Mul64(a, b)
	return wide{hi, lo}
}

func (w wide) isZero() bool { return w.hi == 0 && w.lo == 0 }

func (w wide) less(v wide) bool { return w.hi < v.hi || w.hi == v.hi && w.lo < v.lo }

func (w wide) plus(v wide) wide {
	lo, carry := bits.Add64(w.lo, v.lo, 0)
	return wide{w.hi + v.hi + carry, lo}
}

func (w wide) minus(v wide) wide {
	lo, borrow := bits.Sub64(w.lo, v.lo, 0)
	return wide{w.hi - v.hi - borrow, lo}
}

// small returns the number if it has at most 64 bits.
func (w wide) small() (uint64, bool) { return w.lo, w.hi == 0 }

func (w wide) remainder(d uint64) uint64 { return bits.Rem64(w.hi, w.lo, d) }

// quotient divides, unless the result has more than 64 bits.
func (w wide) quotient(d uint64) (uint64, bool) {
	if w.hi >= d {
		return 0, false
	}
	q, _ := bits.Div64(w.hi, w.lo, d)
	return q, true
}
