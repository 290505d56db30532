package expect

import (
	"math"
	exact "math/big"
	"testing"
)

// exactly is the number of the words, the highest of which has the sign.
func (a whole) exactly() *exact.Int {
	z := exact.NewInt(int64(a[3]))
	for j := 2; j >= 0; j-- {
		z.Lsh(z, 64)
		z.Add(z, new(exact.Int).SetUint64(a[j]))
	}
	return z
}

// wrapped is the number between -2^255 and 2^255 - 1 that differs from z by a multiple of 2^256.
func wrapped(z *exact.Int) *exact.Int {
	half := new(exact.Int).Lsh(exact.NewInt(1), 255)
	z = new(exact.Int).Add(z, half)
	z.And(z, new(exact.Int).Sub(new(exact.Int).Lsh(half, 1), exact.NewInt(1)))
	return z.Sub(z, half)
}

// wholes are numbers whose words are all sorts of ones: sums of as many bits come from lists too long for a test.
func wholes() []whole {
	words := []uint64{0, 1, 2, 1 << 63, math.MaxUint64, 0x9e3779b97f4a7c15}
	var list []whole
	for j := range 6 * 6 * 6 * 6 {
		list = append(list, whole{words[j%6], words[j/6%6], words[j/36%6], words[j/216]})
	}
	return list
}

var longs = []int64{0, 1, -1, 2, 3, -7, 1 << 53, 1<<53 - 1, 1 << 62, -1 << 62, math.MaxInt64, math.MinInt64, math.MinInt64 + 1, 0x1e3779b97f4a7c15}

// Numbers of 256 bits against numbers of any length, of which more bits fall away.
func TestWholes(t *testing.T) {
	list := wholes()
	for j, a := range list {
		z := a.exactly()
		if got := a.negative().exactly(); got.Cmp(wrapped(new(exact.Int).Neg(z))) != 0 {
			t.Fatalf("the negative of %v: %v", z, got)
		}
		for k := range 20 {
			b := list[(j*7+k*61)%len(list)]
			if got := a.plus(b).exactly(); got.Cmp(wrapped(new(exact.Int).Add(z, b.exactly()))) != 0 {
				t.Fatalf("%v plus %v: %v", z, b.exactly(), got)
			}
		}
		for _, n := range longs {
			if got := a.times(n).exactly(); got.Cmp(wrapped(new(exact.Int).Mul(z, exact.NewInt(n)))) != 0 {
				t.Fatalf("%v times %d: %v", z, n, got)
			}
		}
		if a.even() != (z.Bit(0) == 0) {
			t.Fatalf("%v is even: %v", z, a.even())
		}
		if got := a.half().exactly(); a.even() && got.Cmp(new(exact.Int).Rsh(z, 1)) != 0 {
			t.Fatalf("half of %v: %v", z, got)
		}
		if n, ok := a.narrow(); ok != z.IsInt64() || ok && n != z.Int64() || !ok && n != 0 {
			t.Fatalf("%v as one of 64 bits: %d, %v", z, n, ok)
		}
	}
}

func TestLongs(t *testing.T) {
	for _, m := range longs {
		if a := wholeOf(m).exactly(); a.Cmp(exact.NewInt(m)) != 0 {
			t.Fatalf("%d became %v", m, a)
		}
		for _, n := range longs {
			if a := product(m, n).exactly(); a.Cmp(new(exact.Int).Mul(exact.NewInt(m), exact.NewInt(n))) != 0 {
				t.Fatalf("%d times %d: %v", m, n, a)
			}
		}
	}
}
