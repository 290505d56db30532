package root_test

import (
	"math"
	exact "math/big"
	"testing"

	"cubit/api"
	"cubit/root"
)

// Roots once more, with whole numbers of any length: (p + q r) / 2^k.

type value struct {
	p, q *exact.Int
	k    int
}

func valueOf(a api.Root) value { return value{exact.NewInt(a.P), exact.NewInt(a.Q), a.K} }

// over is the same value with a greater k.
func (v value) over(k int) value {
	n := uint(k - v.k)
	return value{new(exact.Int).Lsh(v.p, n), new(exact.Int).Lsh(v.q, n), k}
}

func (v value) plus(u value) value {
	k := max(v.k, u.k)
	v, u = v.over(k), u.over(k)
	return value{v.p.Add(v.p, u.p), v.q.Add(v.q, u.q), k}
}

func (v value) negative() value {
	return value{new(exact.Int).Neg(v.p), new(exact.Int).Neg(v.q), v.k}
}

func (v value) times(u value) value {
	mul := func(x, y *exact.Int) *exact.Int { return new(exact.Int).Mul(x, y) }
	p, twice := mul(v.p, u.p), mul(v.q, u.q)
	p.Add(p, twice.Lsh(twice, 1))
	q := mul(v.p, u.q)
	return value{p, q.Add(q, mul(v.q, u.p)), v.k + u.k}
}

// sign: the square root of 2 q^2 is no whole number, so that p and it are told apart by the whole numbers below.
func (v value) sign() int {
	switch v.q.Sign() {
	case 0:
		return v.p.Sign()
	case -1:
		return -v.negative().sign()
	}
	below := new(exact.Int).Mul(v.q, v.q)
	below.Sqrt(below.Lsh(below, 1))
	if below.Add(below, v.p).Sign() >= 0 {
		return 1
	}
	return -1
}

// root is the value's root by the chapter's words, a halving at a time.
func (v value) root() (api.Root, api.Errno) {
	if v.p.Sign() == 0 && v.q.Sign() == 0 {
		return api.Root{}, api.OK
	}
	p, q, k := new(exact.Int).Set(v.p), new(exact.Int).Set(v.q), v.k
	for k > 0 && p.Bit(0) == 0 && q.Bit(0) == 0 {
		p.Rsh(p, 1)
		q.Rsh(q, 1)
		k--
	}
	most := exact.NewInt(top)
	if p.CmpAbs(most) > 0 || q.CmpAbs(most) > 0 || k > power {
		return api.Root{}, api.ErrBig
	}
	return at(p.Int64(), q.Int64(), k), api.OK
}

// float takes the chapter's three steps, each rounded to 53 bits.
func (v value) float() float64 {
	step := func() *exact.Float { return new(exact.Float).SetPrec(53).SetMode(exact.ToNearestEven) }
	x := step().Mul(step().SetInt(v.q), exact.NewFloat(1.4142135623730951))
	y := step().Add(step().SetInt(v.p), x)
	z, _ := step().SetMantExp(y, -v.k).Float64()
	return z
}

// A source of roots: the same ones each time.
type source uint64

func (s *source) next() uint64 {
	*s = *s*6364136223846793005 + 1442695040888963407
	return uint64(*s) ^ uint64(*s)>>29
}

func (s *source) below(n int) int { return int(s.next() % uint64(n)) }

// part has a length from 0 to most bits, of which some lowest ones are often 0.
func (s *source) part(most int) int64 {
	length := s.below(most + 1)
	p := int64(s.next() & (1<<length - 1))
	if s.next()&1 == 0 {
		p &^= 1<<s.below(length+1) - 1
	}
	if s.next()&1 == 0 {
		return -p
	}
	return p
}

func (s *source) root(most, powers int) api.Root {
	p, q := s.part(most), s.part(most)
	a, _ := value{exact.NewInt(p), exact.NewInt(q), s.below(powers + 1)}.root()
	return a
}

// edges: roots of parts at both ends of the bound and near noughts, with K at both ends.
func edges() []api.Root {
	var l []api.Root
	parts := []int64{0, 1, -1, 2, -2, 3, 1 << 52, -1 << 52, 6369051672525773, -4503599627370497, top - 1, top, -top}
	for _, p := range parts {
		for _, q := range parts {
			for _, k := range []int{0, 1, 7, 52, power} {
				if k == 0 || (p|q)&1 != 0 {
					l = append(l, at(p, q, k))
				}
			}
		}
	}
	return l
}

func holdTwo(t *testing.T, a, b api.Root) {
	t.Helper()
	v, u := valueOf(a), valueOf(b)
	for _, c := range []struct {
		name string
		f    two
		want value
	}{{"Add", root.Add, v.plus(u)}, {"Sub", root.Sub, v.plus(u.negative())}, {"Mul", root.Mul, v.times(u)}} {
		want, wantE := c.want.root()
		if z, e := c.f(a, b); z != want || e != wantE {
			t.Fatalf("%s(%v, %v): %v, %d, not %v, %d", c.name, a, b, z, e, want, wantE)
		}
	}
	holdCompare(t, a, b)
}

func holdCompare(t *testing.T, a, b api.Root) int {
	t.Helper()
	want := valueOf(a).plus(valueOf(b).negative()).sign()
	if s, e := root.Compare(a, b); s != want || e != api.OK {
		t.Fatalf("Compare(%v, %v): %d, %d, not %d", a, b, s, e, want)
	}
	return want
}

func holdOne(t *testing.T, a api.Root) {
	t.Helper()
	if e := root.Check(a); e != api.OK {
		t.Fatalf("Check(%v): %d", a, e)
	}
	want := valueOf(a).sign()
	if s, e := root.Sign(a); s != want || e != api.OK {
		t.Fatalf("Sign(%v): %d, %d, not %d", a, s, e, want)
	}
	f := valueOf(a).float()
	if z, e := root.Float(a); math.Float64bits(z) != math.Float64bits(f) || e != api.OK {
		t.Fatalf("Float(%v): %v, %d, not %v", a, z, e, f)
	}
}

func TestExactAtEdges(t *testing.T) {
	l := edges()
	for _, a := range l {
		holdOne(t, a)
	}
	for i, a := range l {
		for j := i % 5; j < len(l); j += 5 {
			holdTwo(t, a, l[j])
		}
	}
}

func TestExactOfMany(t *testing.T) {
	s := source(7)
	for range 40000 {
		most, powers := []int{4, 27, 53}[s.below(3)], []int{0, 9, power}[s.below(3)]
		a, b := s.root(most, powers), s.root(most, powers)
		holdOne(t, a)
		holdTwo(t, a, b)
	}
}

func TestMakeExactly(t *testing.T) {
	s := source(11)
	ends := []int64{0, 1, -2, top, -top - 1, 1 << 62, math.MaxInt64, math.MinInt64, math.MinInt64 + 2}
	for i := range 40000 {
		p, q, k := s.part(63), s.part(63), s.below(130)
		if i%5 == 0 {
			p = ends[s.below(len(ends))]
		}
		if i%7 == 0 {
			q = ends[s.below(len(ends))]
		}
		want, wantE := value{exact.NewInt(p), exact.NewInt(q), k}.root()
		if a, e := root.Make(p, q, k); a != want || e != wantE {
			t.Fatalf("Make(%d, %d, %d): %v, %d, not %v, %d", p, q, k, a, e, want, wantE)
		}
	}
}

// nearest are the pairs of whole numbers with p^2 - 2 q^2 = 1 or -1, so long as they are below 2^length: no fractions p / q of their size are nearer to the square root of 2.
func nearest(length int) []value {
	var l []value
	for p, q := exact.NewInt(1), exact.NewInt(1); p.BitLen() <= length; {
		l = append(l, value{p, q, 0})
		next := new(exact.Int).Add(p, q)
		p, q = new(exact.Int).Add(next, q), next
	}
	return l
}

func TestSignOfNearest(t *testing.T) {
	for i, v := range nearest(53) {
		want := 1 - 2*((i+1)%2) // the first, 1 / 1, is below
		a := at(v.p.Int64(), -v.q.Int64(), i)
		if s, e := root.Sign(a); s != want || e != api.OK {
			t.Errorf("Sign(%v): %d, %d, not %d", a, s, e, want)
		}
		b := at(-a.P, -a.Q, power)
		if s, e := root.Sign(b); s != -want || e != api.OK {
			t.Errorf("Sign(%v): %d, %d, not %d", b, s, e, -want)
		}
	}
}

// TestMulOfNearest: p - q r and p + q r, whose products of parts have up to 106 bits, come to 1 or -1.
func TestMulOfNearest(t *testing.T) {
	for i, v := range nearest(53) {
		p, q := v.p.Int64(), v.q.Int64()
		want := at(int64(1-2*((i+1)%2)), 0, power)
		if z, e := root.Mul(at(p, -q, power/2), at(p, q, power/2)); z != want || e != api.OK {
			t.Errorf("Mul of %d - %d r and %d + %d r: %v, %d", p, q, p, q, z, e)
		}
	}
}

// divided is n as high * 2^by - low, low's absolute value at most half of 2^by.
func divided(n *exact.Int, by uint) (high, low int64) {
	half := new(exact.Int).Lsh(exact.NewInt(1), by-1)
	h := new(exact.Int).Add(n, half)
	h.Rsh(h, by)
	l := new(exact.Int).Lsh(h, by)
	return h.Int64(), l.Sub(l, n).Int64()
}

// TestCompareWithNearest: the differences are p - q r with p and q of up to 105 bits, over a power of 2.
func TestCompareWithNearest(t *testing.T) {
	const by = 53
	told := map[int]int{}
	for _, v := range nearest(by + 52) {
		p, q := v.p, new(exact.Int).Neg(v.q)
		highP, lowP := divided(p, by)
		highQ, lowQ := divided(q, by)
		for k := 0; k+by <= power; k++ {
			a, _ := value{exact.NewInt(highP), exact.NewInt(highQ), k}.root()
			told[holdCompare(t, a, at(lowP, lowQ, k+by))]++
			told[holdCompare(t, at(lowP, lowQ, k+by), a)]++
		}
	}
	if told[1] < 500 || told[1] != told[-1] || told[0] != 0 {
		t.Errorf("told: %v", told)
	}
}

// TestCompareFarApart: K 0 against K MaxPower, and the values as near as can be on both sides.
func TestCompareFarApart(t *testing.T) {
	told := map[int]int{}
	for _, v := range nearest(52) {
		far := value{v.p, new(exact.Int).Neg(v.q), 0}
		a, _ := far.root()
		far = far.over(power)
		// far less n r, n of any odd number, is next to a whole number.
		for n := int64(-9); n <= 9; n += 2 {
			rest := value{far.p, new(exact.Int).Sub(far.q, exact.NewInt(n)), 0}
			whole := new(exact.Int).Mul(rest.q, rest.q)
			whole.Sqrt(whole.Lsh(whole, 1))
			if rest.q.Sign() < 0 {
				whole.Neg(whole)
			}
			whole.Add(whole, rest.p)
			for d := int64(-1); d <= 1; d++ {
				if m := whole.Int64() + d; whole.IsInt64() && -top <= m && m <= top {
					told[holdCompare(t, a, at(m, n, power))]++
				}
			}
		}
	}
	if told[1] < 200 || told[-1] < 200 {
		t.Errorf("told: %v", told)
	}
}

// TestFloatIsNotFused: roots of which one rounding of product and sum together tells another number than two.
func TestFloatIsNotFused(t *testing.T) {
	s, unlike := source(13), 0
	for range 5000 {
		a := s.root(53, power)
		fused := math.Ldexp(math.FMA(float64(a.Q), math.Sqrt2, float64(a.P)), -a.K)
		if z, e := root.Float(a); z != valueOf(a).float() || e != api.OK {
			t.Fatalf("Float(%v): %v, %d", a, z, e)
		} else if z != fused {
			unlike++
		}
	}
	if unlike < 100 {
		t.Errorf("only %d roots tell it", unlike)
	}
}
