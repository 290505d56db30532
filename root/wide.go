package root

import "math/bits"

// A wide is a whole number of 128 bits, in two's complement: sums and products of roots, brought to one power of 2, leave an int64, but not this.
type wide struct{ high, low uint64 }

func wideOf(n int64) wide { return wide{uint64(n >> 63), uint64(n)} }

// narrow is false, if the number is none of int64.
func (a wide) narrow() (int64, bool) {
	n := int64(a.low)
	if a != wideOf(n) {
		return 0, false
	}
	return n, true
}

func (a wide) sign() int {
	switch {
	case int64(a.high) < 0:
		return -1
	case a.high|a.low != 0:
		return 1
	}
	return 0
}

func (a wide) plus(b wide) wide {
	low, carry := bits.Add64(a.low, b.low, 0)
	high, _ := bits.Add64(a.high, b.high, carry)
	return wide{high, low}
}

func (a wide) negative() wide {
	low, borrow := bits.Sub64(0, a.low, 0)
	high, _ := bits.Sub64(0, a.high, borrow)
	return wide{high, low}
}

func (a wide) size() wide {
	if a.sign() < 0 {
		return a.negative()
	}
	return a
}

// up is the number times 2^n, n from 0 to 64.
func (a wide) up(n int) wide {
	return wide{a.high<<n | a.low>>(64-n), a.low << n}
}

// down is the number over 2^n, n from 0 to 64, which it can be divided by.
func (a wide) down(n int) wide {
	return wide{uint64(int64(a.high) >> n), a.high<<(64-n) | a.low>>n}
}

// evenness is how often both can be halved, 64 where it is more.
func evenness(a, b wide) int { return bits.TrailingZeros64(a.low | b.low) }

func product(m, n int64) wide {
	high, low := bits.Mul64(wideOf(m).size().low, wideOf(n).size().low)
	if (m < 0) != (n < 0) {
		return wide{high, low}.negative()
	}
	return wide{high, low}
}
