package ring

import (
	"cubit/api"
	"cubit/gauss"
)

// Turn is r times w to the power k.
func Turn(r api.Ring, k int) (api.Ring, api.Errno) {
	if e := Check(r); e != api.OK {
		return api.Ring{}, e
	}
	k &= 7 // the lowest three bits are k modulo 8, of a negative k too
	m := k >> 1
	if k&1 == 0 {
		return turned(r.A, m, r.B, m)
	}
	return turned(r.B, m+1, r.A, m) // a single w moves A to B, and B, with w^2 = i, to A
}

// turned is the element of a and b, each times i to a power of its own.
func turned(a complex128, m int, b complex128, n int) (api.Ring, api.Errno) {
	a, e := gauss.Turn(a, m)
	b, f := gauss.Turn(b, n)
	return element(a, b, e, f)
}

// Conj is the conjugate: that of w is w^7, which is i^3 w.
func Conj(r api.Ring) (api.Ring, api.Errno) {
	if e := Check(r); e != api.OK {
		return api.Ring{}, e
	}
	a, e := gauss.Conj(r.A)
	b, f := gauss.Conj(r.B)
	b, g := gauss.Turn(b, 3)
	return element(a, b, e, f, g)
}

// Star puts the square root of 2 for its negative, and so -w for w.
func Star(r api.Ring) (api.Ring, api.Errno) {
	if e := Check(r); e != api.OK {
		return api.Ring{}, e
	}
	return turned(r.A, 0, r.B, 2)
}

// Order is the least k with r = Turn(s, k); false, if there is none.
func Order(r, s api.Ring) (int, bool) {
	if checkBoth(r, s) != api.OK {
		return 0, false
	}
	for k := range 8 {
		if t, e := Turn(s, k); e == api.OK && t == r {
			return k, true
		}
	}
	return 0, false
}
