package expect

import "math/bits"

// A whole is a whole number of 256 bits, in two's complement, its lowest word first. A value is below 2^119, a factor at most 2^63: 2^73 of their products are within it.
type whole [4]uint64

func wholeOf(n int64) whole {
	sign := uint64(n >> 63)
	return whole{uint64(n), sign, sign, sign}
}

// product takes both as numbers from 0 on, by which one below 0 is 2^64 too great: so often the other one is taken off again.
func product(m, n int64) whole {
	high, low := bits.Mul64(uint64(m), uint64(n))
	high -= uint64(m>>63)&uint64(n) + uint64(n>>63)&uint64(m)
	sign := uint64(int64(high) >> 63)
	return whole{low, high, sign, sign}
}

// narrow is false, if the number is none of int64.
func (a whole) narrow() (int64, bool) {
	n := int64(a[0])
	if a != wholeOf(n) {
		return 0, false
	}
	return n, true
}

func (a whole) plus(b whole) whole {
	var carry uint64
	for j := range a {
		a[j], carry = bits.Add64(a[j], b[j], carry)
	}
	return a
}

func (a whole) negative() whole {
	for j := range a {
		a[j] = ^a[j]
	}
	return a.plus(whole{1})
}

// times multiplies by n's size, word by word, and then looks at its sign; what two's complement has above 256 bits falls away.
func (a whole) times(n int64) whole {
	if n < 0 {
		return a.scaled(-uint64(n)).negative()
	}
	return a.scaled(uint64(n))
}

func (a whole) scaled(n uint64) whole {
	var over uint64
	for j, word := range a {
		high, low := bits.Mul64(word, n)
		sum, carry := bits.Add64(low, over, 0)
		a[j], over = sum, high+carry
	}
	return a
}

func (a whole) even() bool { return a[0]&1 == 0 }

// half is the number over 2; it must be even.
func (a whole) half() whole {
	for j := range 3 {
		a[j] = a[j]>>1 | a[j+1]<<63
	}
	a[3] = uint64(int64(a[3]) >> 1)
	return a
}
