package gauss

import "cubit/api"

// Divide is the quotient whose parts are nearest to the true ones, and the rest. The steps on the way may be refused (ErrBig), also where quotient and rest would be small enough.
func Divide(x, y complex128) (q, r complex128, e api.Errno) {
	if e = checkBoth(x, y); e != api.OK {
		return 0, 0, e
	}
	if y == 0 {
		return 0, 0, api.ErrZero
	}
	if q, e = quotient(x, y); e != api.OK {
		return 0, 0, e
	}
	if r, e = rest(x, y, q); e != api.OK {
		return 0, 0, e
	}
	return q, r, api.OK
}

// quotient of x by y, which isn't 0: x times y's conjugate over y's norm, so that only whole numbers are divided.
func quotient(x, y complex128) (complex128, api.Errno) {
	n, e := Norm(y)
	if e != api.OK {
		return 0, e
	}
	c, e := Conj(y)
	if e != api.OK {
		return 0, e
	}
	t, e := Mul(x, c)
	if e != api.OK {
		return 0, e
	}
	return complex(nearest(real(t), n), nearest(imag(t), n)), api.OK
}

func rest(x, y, q complex128) (complex128, api.Errno) {
	p, e := Mul(q, y)
	if e != api.OK {
		return 0, e
	}
	return Sub(x, p)
}

// nearest is the whole number that is nearest to p over n, of two the greater one: 2p + n over 2n, rounded down. It is reckoned in whole numbers, for a quotient of floats might be rounded to the half-way or off it.
func nearest(p float64, n int64) float64 {
	u, m := 2*int64(p)+n, 2*n
	q := u / m
	if u%m < 0 {
		q--
	}
	return float64(q)
}

// Gcd is the greatest common divisor in its one form, by Euclid's way: each rest has at most half the norm of the one ahead of it, so it ends.
func Gcd(x, y complex128) (complex128, api.Errno) {
	if e := checkBoth(x, y); e != api.OK {
		return 0, e
	}
	for y != 0 {
		_, r, e := Divide(x, y)
		if e != api.OK {
			return 0, e
		}
		x, y = y, r
	}
	return oneForm(x)
}

// oneForm is the turn of x with a real part above 0 and no imaginary part below it.
func oneForm(x complex128) (complex128, api.Errno) {
	for k := range 4 {
		z, e := Turn(x, k)
		if e != api.OK {
			return 0, e
		}
		if real(z) > 0 && imag(z) >= 0 {
			return z, api.OK
		}
	}
	return 0, api.OK
}
