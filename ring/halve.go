package ring

import (
	"cubit/api"
	"cubit/gauss"
)

// Double is r times the square root of 2, which is (1 - i) w; or ErrBig.
func Double(r api.Ring) (api.Ring, api.Errno) {
	if e := Check(r); e != api.OK {
		return api.Ring{}, e
	}
	ia, e1 := gauss.Turn(r.A, 1)
	ib, e2 := gauss.Turn(r.B, 1)
	a, e3 := gauss.Add(r.B, ib)
	b, e4 := gauss.Sub(r.A, ia)
	return element(a, b, e1, e2, e3, e4)
}

// parts are whole numbers of an element that Check took: so sums of two of them, which may leave the bound of the floats, stay exact.
func parts(x complex128) (a, b int64) { return int64(real(x)), int64(imag(x)) }

// number is free of -0, since no whole number is that.
func number(a, b int64) complex128 { return complex(float64(a), float64(b)) }

// Halve is r over the square root of 2; false, if that is no element. Half of a sum of two parts is within the bound again, so no size is refused.
func Halve(r api.Ring) (api.Ring, bool, api.Errno) {
	if e := Check(r); e != api.OK {
		return api.Ring{}, false, e
	}
	a, b := parts(r.A)
	c, d := parts(r.B)
	if (a^b)&1 != 0 || (c^d)&1 != 0 {
		return api.Ring{}, false, api.OK
	}
	return api.Ring{A: number((c-d)/2, (c+d)/2), B: number((a+b)/2, (b-a)/2)}, true, api.OK
}

// Weight is the square of r's absolute value, or ErrBig. Norms that aren't refused leave parts so small that no sum of their products leaves an int64.
func Weight(r api.Ring) (api.Root, api.Errno) {
	if e := Check(r); e != api.OK {
		return api.Root{}, e
	}
	m, e := gauss.Norm(r.A)
	if e != api.OK {
		return api.Root{}, e
	}
	n, e := gauss.Norm(r.B)
	if e != api.OK {
		return api.Root{}, e
	}
	if m+n > api.MaxPart {
		return api.Root{}, api.ErrBig
	}
	a, b := parts(r.A)
	c, d := parts(r.B)
	return api.Root{P: m + n, Q: (a*c + b*d) - (a*d - b*c)}, api.OK
}
