package root

import (
	"math/bits"
	"slices"

	"cubit/api"
)

// Sign is -1, 0 or 1, as the value is below, at or above 0.
func Sign(a api.Root) (int, api.Errno) {
	if e := Check(a); e != api.OK {
		return 0, e
	}
	return signOf(wideOf(a.P), wideOf(a.Q)), api.OK
}

// Compare is the sign of a's value less b's. It asks for no root of the difference, and so refuses none by size.
func Compare(a, b api.Root) (int, api.Errno) {
	if e := checkBoth(a, b); e != api.OK {
		return 0, e
	}
	p, q, _ := sum(a, negative(b))
	return signOf(p, q), api.OK
}

// signOf p + q times the square root of 2. Where the signs are unlike, that with the greater square wins: p^2 is never 2 q^2 then.
func signOf(p, q wide) int {
	s, t := p.sign(), q.sign()
	if s == t {
		return s
	}
	m, n := square(p.size()), twice(square(q.size()))
	if slices.Compare(m[:], n[:]) > 0 {
		return s
	}
	return t
}

// square of a number from 0 to below 2^127, in words of 64 bits, the highest one first.
func square(a wide) [4]uint64 {
	topHigh, topLow := bits.Mul64(a.high, a.high)
	middleHigh, middleLow := bits.Mul64(2*a.high, a.low)
	bottomHigh, bottomLow := bits.Mul64(a.low, a.low)
	second, carry := bits.Add64(bottomHigh, middleLow, 0)
	third, carry := bits.Add64(topLow, middleHigh, carry)
	return [4]uint64{topHigh + carry, third, second, bottomLow}
}

// twice a number below 2^255.
func twice(a [4]uint64) [4]uint64 {
	for i := range 3 {
		a[i] = a[i]<<1 | a[i+1]>>63
	}
	a[3] <<= 1
	return a
}
