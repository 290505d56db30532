package gauss_test

import (
	exact "math/big"
	"testing"

	"cubit/api"
	"cubit/gauss"
)

// The chapter's steps once more, in whole numbers of any length: a step that is beyond MaxPart is told, and no float is reckoned with.

type pair struct{ a, b *exact.Int }

func pairOf(x complex128) pair {
	return pair{exact.NewInt(int64(real(x))), exact.NewInt(int64(imag(x)))}
}

func (p pair) number() complex128 {
	return complex(float64(p.a.Int64()), float64(p.b.Int64()))
}

// steps counts those that were beyond the bound.
type steps struct{ beyond int }

func (s *steps) look(n *exact.Int) *exact.Int {
	if n.CmpAbs(exact.NewInt(api.MaxPart)) > 0 {
		s.beyond++
	}
	return n
}

func (s *steps) plus(m, n *exact.Int) *exact.Int  { return s.look(new(exact.Int).Add(m, n)) }
func (s *steps) less(m, n *exact.Int) *exact.Int  { return s.look(new(exact.Int).Sub(m, n)) }
func (s *steps) times(m, n *exact.Int) *exact.Int { return s.look(new(exact.Int).Mul(m, n)) }

func (s *steps) add(x, y pair) pair { return pair{s.plus(x.a, y.a), s.plus(x.b, y.b)} }
func (s *steps) sub(x, y pair) pair { return pair{s.less(x.a, y.a), s.less(x.b, y.b)} }

func (s *steps) mul(x, y pair) pair {
	return pair{s.less(s.times(x.a, y.a), s.times(x.b, y.b)), s.plus(s.times(x.a, y.b), s.times(x.b, y.a))}
}

func (s *steps) norm(x pair) *exact.Int { return s.plus(s.times(x.a, x.a), s.times(x.b, x.b)) }

func conj(x pair) pair { return pair{x.a, new(exact.Int).Neg(x.b)} }

// near looks at the two whole numbers around p over n and takes the nearer one, of two the greater one.
func near(p, n *exact.Int) *exact.Int {
	below, left := new(exact.Int).DivMod(p, n, new(exact.Int))
	if left.Lsh(left, 1).Cmp(n) >= 0 {
		below.Add(below, exact.NewInt(1))
	}
	return below
}

func (s *steps) divide(x, y pair) (q, r pair) {
	n, t := s.norm(y), s.mul(x, conj(y))
	q = pair{near(t.a, n), near(t.b, n)}
	return q, s.sub(x, s.mul(q, y))
}

func (s *steps) gcd(x, y pair) pair {
	for y.a.Sign() != 0 || y.b.Sign() != 0 {
		_, r := s.divide(x, y)
		x, y = y, r
	}
	for x.a.Sign() < 0 || x.b.Sign() < 0 || x.a.Sign() == 0 && x.b.Sign() != 0 {
		x = pair{new(exact.Int).Neg(x.b), x.a}
	}
	return x
}

// expect holds what a call told against the pair and the steps on the way to it.
func expect(t *testing.T, name string, x, y, z complex128, e api.Errno, want pair, s steps) {
	t.Helper()
	if s.beyond > 0 {
		if !same(z, 0) || e != api.ErrBig {
			t.Errorf("%s(%v, %v): %v, %d, though %d steps are beyond the bound", name, x, y, z, e, s.beyond)
		}
		return
	}
	if !same(z, want.number()) || e != api.OK {
		t.Errorf("%s(%v, %v): %v, %d, not %v", name, x, y, z, e, want.number())
	}
}

func holdAgainstSteps(t *testing.T, x, y complex128) {
	t.Helper()
	p, r := pairOf(x), pairOf(y)
	for _, c := range []struct {
		name string
		f    two
		by   func(*steps, pair, pair) pair
	}{{"Add", gauss.Add, (*steps).add}, {"Sub", gauss.Sub, (*steps).sub}, {"Mul", gauss.Mul, (*steps).mul}, {"Gcd", gauss.Gcd, (*steps).gcd}} {
		var s steps
		want := c.by(&s, p, r)
		z, e := c.f(x, y)
		expect(t, c.name, x, y, z, e, want, s)
	}
	if y == 0 {
		return
	}
	var s steps
	wantQ, wantR := s.divide(p, r)
	q, left, e := gauss.Divide(x, y)
	expect(t, "Divide's quotient", x, y, q, e, wantQ, s)
	expect(t, "Divide's rest", x, y, left, e, wantR, s)
}

func holdOneAgainstSteps(t *testing.T, x complex128) {
	t.Helper()
	p := pairOf(x)
	z, e := gauss.Conj(x)
	expect(t, "Conj", x, 0, z, e, conj(p), steps{})
	turned := p
	for k := range 4 {
		for _, j := range []int{k, k - 4, k + 4, k - 1<<40, k + 1<<40} {
			z, e = gauss.Turn(x, j)
			expect(t, "Turn", x, complex(float64(j), 0), z, e, turned, steps{})
		}
		turned = pair{new(exact.Int).Neg(turned.b), turned.a}
	}
	var s steps
	n := s.norm(p)
	got, e := gauss.Norm(x)
	if s.beyond > 0 && (got != 0 || e != api.ErrBig) || s.beyond == 0 && (got != n.Int64() || e != api.OK) {
		t.Errorf("Norm(%v): %d, %d", x, got, e)
	}
}

// A source of numbers: the same ones each time.
type source uint64

func (s *source) next() uint64 {
	*s = *s*6364136223846793005 + 1442695040888963407
	return uint64(*s) ^ uint64(*s)>>29
}

// part has a length from 0 to 53 bits, so that small and great ones come alike.
func (s *source) part(most int) float64 {
	p := float64(s.next() & (1<<(s.next()%uint64(most+1)) - 1))
	if s.next()&1 == 0 {
		return 0 - p
	}
	return p
}

func (s *source) number(most int) complex128 { return complex(s.part(most), s.part(most)) }

func TestAgainstStepsAtEdges(t *testing.T) {
	for _, x := range rightNumbers() {
		holdOneAgainstSteps(t, x)
	}
	l := rightParts()
	for i, a := range l {
		for j, b := range l {
			for _, c := range l {
				holdAgainstSteps(t, complex(a, b), complex(c, l[(i+j)%len(l)]))
			}
		}
	}
}

func TestAgainstStepsSmall(t *testing.T) {
	for n := range 9 * 9 * 9 * 9 {
		x := complex(float64(n%9-4), float64(n/9%9-4))
		y := complex(float64(n/81%9-4), float64(n/729-4))
		holdAgainstSteps(t, x, y)
	}
}

func TestAgainstStepsAtRandom(t *testing.T) {
	s := source(2)
	for range 3000 {
		for _, most := range []int{6, 13, 26, 27, 53} {
			x, y := s.number(most), s.number(most)
			holdAgainstSteps(t, x, y)
			holdOneAgainstSteps(t, x)
		}
	}
}

// TestNearHalves: quotients one off the half-way, where a quotient of floats would be rounded to it.
func TestNearHalves(t *testing.T) {
	for _, n := range []float64{1 << 20, 1<<20 + 1, 0x1p26, 94906264, 94906265} {
		for _, k := range []float64{0, 1, 2, 0x1p20, 0x1p25} {
			for _, off := range []float64{-1, 0, 1} {
				x := k*n + float64(int64(n)/2) + off
				holdAgainstSteps(t, complex(x, -x), complex(n, 0))
				holdAgainstSteps(t, complex(-x, x), complex(0, n))
				holdAgainstSteps(t, complex(x, 0), complex(-n, 1))
			}
		}
	}
}
