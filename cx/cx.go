// Package cx is layer 1: complex numbers by their parts, each operation rounded by itself. See shared/doc/01-cx.md.
package cx

import "math"

// The kinds of complex numbers.
const (
	Finite   = 0
	Infinite = 1 // a part is infinite
	Nan      = 2 // a part is no number, and none is infinite
)

// times is a product that is rounded by itself: the conversion keeps a compiler from fusing it with a sum around it.
func times(p, q float64) float64 { return float64(p * q) }

// Add is the sum, part by part.
func Add(x, y complex128) complex128 {
	return complex(real(x)+real(y), imag(x)+imag(y))
}

// Sub is the difference, part by part.
func Sub(x, y complex128) complex128 {
	return complex(real(x)-real(y), imag(x)-imag(y))
}

// Mul is the product by its four products of parts: Go's own may be fused, so it is not taken here.
func Mul(x, y complex128) complex128 {
	a, b, c, d := real(x), imag(x), real(y), imag(y)
	return complex(times(a, c)-times(b, d), times(a, d)+times(b, c))
}

// Div is the quotient. It divides by the greater part of y first, so that no square of a part is needed: that might leave the floats.
func Div(x, y complex128) complex128 {
	a, b, c, d := real(x), imag(x), real(y), imag(y)
	if math.Abs(c) >= math.Abs(d) {
		t := d / c
		s := c + times(d, t)
		return complex((a+times(b, t))/s, (b-times(a, t))/s)
	}
	t := c / d
	s := times(c, t) + d
	return complex((times(a, t)+b)/s, (times(b, t)-a)/s)
}

// Neg turns the signs of both parts, those of noughts too.
func Neg(x complex128) complex128 { return complex(-real(x), -imag(x)) }

// Conj is the conjugate. It turns the sign of a nought too.
func Conj(x complex128) complex128 { return complex(real(x), -imag(x)) }

// Turn is x times i to the power k, by exchanging parts and signs: a product would make NaN of an infinity.
func Turn(x complex128, k int) complex128 {
	a, b := real(x), imag(x)
	switch k & 3 { // the lowest two bits are k modulo 4, of a negative k too
	case 1:
		return complex(-b, a)
	case 2:
		return complex(-a, -b)
	case 3:
		return complex(b, -a)
	}
	return x
}

// Norm is the sum of the squares of the parts.
func Norm(x complex128) float64 {
	return times(real(x), real(x)) + times(imag(x), imag(x))
}

// Abs is the absolute value. The greater part is taken out of the root, so that its square can't leave the floats.
func Abs(x complex128) float64 {
	switch Kind(x) {
	case Infinite:
		return math.Inf(1)
	case Nan:
		return math.NaN()
	}
	m, n := math.Abs(real(x)), math.Abs(imag(x))
	if m < n {
		m, n = n, m
	}
	if m == 0 {
		return 0
	}
	t := n / m
	return m * math.Sqrt(1+times(t, t))
}

// Kind tells whether x is finite, infinite or no number. An infinite part outweighs one that is no number.
func Kind(x complex128) int {
	a, b := real(x), imag(x)
	switch {
	case math.IsInf(a, 0) || math.IsInf(b, 0):
		return Infinite
	case math.IsNaN(a) || math.IsNaN(b):
		return Nan
	}
	return Finite
}

// Equal tells whether the parts are equal as == tells: noughts whatever their signs, NaN never.
func Equal(x, y complex128) bool {
	return real(x) == real(y) && imag(x) == imag(y)
}

// Same tells whether the parts have the same bits, all NaN taken as one.
func Same(x, y complex128) bool {
	return sameFloat(real(x), real(y)) && sameFloat(imag(x), imag(y))
}

func sameFloat(p, q float64) bool {
	return math.Float64bits(p) == math.Float64bits(q) || math.IsNaN(p) && math.IsNaN(q)
}

// Near tells whether no part of x is further than by from that of y.
func Near(x, y complex128, by float64) bool {
	return nearFloat(real(x), real(y), by) && nearFloat(imag(x), imag(y), by)
}

// nearFloat asks for equality first: the difference of an infinity and itself is NaN.
func nearFloat(p, q, by float64) bool {
	return p == q || math.Abs(p-q) <= by
}

// Plain is x without signs of noughts: -0 + 0 is +0, and all else stays.
func Plain(x complex128) complex128 {
	return complex(real(x)+0, imag(x)+0)
}

// Narrow rounds both parts to float32.
func Narrow(x complex128) complex64 {
	return complex(float32(real(x)), float32(imag(x)))
}

// Widen is the same number in parts of float64.
func Widen(x complex64) complex128 {
	return complex(float64(real(x)), float64(imag(x)))
}

// Sum adds from the front on: another order might round otherwise.
func Sum(l []complex128) complex128 {
	var s complex128
	for _, x := range l {
		s = Add(s, x)
	}
	return s
}

// Dot sums the products of x with the conjugates of y, from the front on, as far as both lists go.
func Dot(x, y []complex128) complex128 {
	var s complex128
	for i := range min(len(x), len(y)) {
		s = Add(s, Mul(x[i], Conj(y[i])))
	}
	return s
}
