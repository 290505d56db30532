package ring_test

import (
	exact "math/big"
	"testing"

	"cubit/api"
	"cubit/ring"
)

// The ring once more, as sums of powers of w with whole numbers of any length ahead of them: number j of four belongs to w^j, and w^4 is -1. So a + b i + (c + d i) w is a + c w + b w^2 + d w^3. No complex number and no float is reckoned with.

type powers [4]*exact.Int

func powersOf(r api.Ring) powers {
	return powers{exact.NewInt(int64(real(r.A))), exact.NewInt(int64(real(r.B))), exact.NewInt(int64(imag(r.A))), exact.NewInt(int64(imag(r.B)))}
}

func none() powers { return powers{new(exact.Int), new(exact.Int), new(exact.Int), new(exact.Int)} }

// single is w to the power k, k from 0 on.
func single(k int) powers {
	p := none()
	p.put(k, exact.NewInt(1))
	return p
}

// put adds n times w to the power k.
func (p powers) put(k int, n *exact.Int) {
	if k/4%2 == 1 {
		p[k%4].Sub(p[k%4], n)
		return
	}
	p[k%4].Add(p[k%4], n)
}

func (p powers) plus(q powers, sign int64) powers {
	z := none()
	for k := range 4 {
		z.put(k, p[k])
		z.put(k, new(exact.Int).Mul(q[k], exact.NewInt(sign)))
	}
	return z
}

func (p powers) times(q powers) powers {
	z := none()
	for k := range 4 {
		for j := range 4 {
			z.put(k+j, new(exact.Int).Mul(p[k], q[j]))
		}
	}
	return z
}

// mapped puts w to the power step for w.
func (p powers) mapped(step int) powers {
	z := none()
	for k := range 4 {
		z.put(k*step, p[k])
	}
	return z
}

// rootOfTwo is w - w^3.
func rootOfTwo() powers { return single(1).plus(single(3), -1) }

func (p powers) equal(q powers) bool {
	for k := range 4 {
		if p[k].Cmp(q[k]) != 0 {
			return false
		}
	}
	return true
}

func (p powers) fits() bool {
	for _, n := range p {
		if beyond(n) {
			return false
		}
	}
	return true
}

func beyond(n *exact.Int) bool { return n.CmpAbs(exact.NewInt(api.MaxPart)) > 0 }

func (p powers) element() api.Ring {
	part := func(k int) float64 { return float64(p[k].Int64()) }
	return at(complex(part(0), part(2)), complex(part(1), part(3)))
}

// expect holds what a call told against the number that it should be.
func expect(t *testing.T, name string, l []api.Ring, z api.Ring, e api.Errno, want powers, refused bool) {
	t.Helper()
	if refused {
		if !same(z, at(0, 0)) || e != api.ErrBig {
			t.Errorf("%s of %v: %v, %d, not refused", name, l, z, e)
		}
		return
	}
	if !same(z, want.element()) || e != api.OK {
		t.Errorf("%s of %v: %v, %d, not %v", name, l, z, e, want.element())
	}
}

// productRefused: does a step on the way to a product leave the bound? Those are, for each of the four products of A or B with C or D, four products of parts, a difference and a sum, and then the sums of two of the four.
func productRefused(r, s api.Ring) bool {
	found := false
	mul := func(x, y complex128) powers {
		p, q := powersOf(at(x, 0)), powersOf(at(y, 0))
		for _, k := range []int{0, 2} {
			for _, j := range []int{0, 2} {
				found = found || beyond(new(exact.Int).Mul(p[k], q[j]))
			}
		}
		z := p.times(q)
		found = found || !z.fits()
		return z
	}
	a := mul(r.A, s.A).plus(mul(r.B, s.B).times(single(2)), 1)
	b := mul(r.A, s.B).plus(mul(r.B, s.A), 1)
	return found || !a.fits() || !b.fits()
}

func holdTwo(t *testing.T, r, s api.Ring) {
	t.Helper()
	p, q, l := powersOf(r), powersOf(s), []api.Ring{r, s}
	sum, less := p.plus(q, 1), p.plus(q, -1)
	z, e := ring.Add(r, s)
	expect(t, "Add", l, z, e, sum, !sum.fits())
	z, e = ring.Sub(r, s)
	expect(t, "Sub", l, z, e, less, !less.fits())
	z, e = ring.Mul(r, s)
	expect(t, "Mul", l, z, e, p.times(q), productRefused(r, s))
	k, ok := ring.Order(r, s)
	wantK, wantOK := order(p, q)
	if k != wantK || ok != wantOK {
		t.Errorf("Order of %v: %d, %v, not %d, %v", l, k, ok, wantK, wantOK)
	}
}

func order(p, q powers) (int, bool) {
	for k := range 8 {
		if q.times(single(k)).equal(p) {
			return k, true
		}
	}
	return 0, false
}

func holdOne(t *testing.T, r api.Ring) {
	t.Helper()
	p, l := powersOf(r), []api.Ring{r}
	z, e := ring.Conj(r)
	expect(t, "Conj", l, z, e, p.mapped(7), false)
	z, e = ring.Star(r)
	expect(t, "Star", l, z, e, p.mapped(5), false)
	double := p.times(rootOfTwo())
	z, e = ring.Double(r)
	expect(t, "Double", l, z, e, double, !double.fits())
	for k := range 8 {
		z, e = ring.Turn(r, k)
		expect(t, "Turn", l, z, e, p.times(single(k)), false)
		z, e = ring.Turn(r, k-8)
		expect(t, "Turn back", l, z, e, p.times(single(k)), false)
	}
	holdHalf(t, r, double)
	holdWeight(t, r, p.times(p.mapped(7)))
}

// holdHalf: r over the square root of 2 is half of r times it, and none, if one of that one's parts is odd.
func holdHalf(t *testing.T, r api.Ring, double powers) {
	t.Helper()
	half, whole := none(), true
	for k, n := range double {
		whole = whole && n.Bit(0) == 0
		half[k].Rsh(n, 1)
	}
	if !whole {
		half = none()
	}
	z, ok, e := ring.Halve(r)
	if ok != whole {
		t.Errorf("Halve of %v: %v", r, ok)
	}
	expect(t, "Halve", []api.Ring{r}, z, e, half, false)
}

// holdWeight: the product with the conjugate is P + Q (w - w^3).
func holdWeight(t *testing.T, r api.Ring, square powers) {
	t.Helper()
	w, e := ring.Weight(r)
	if beyond(square[0]) {
		if w != (api.Root{}) || e != api.ErrBig {
			t.Errorf("Weight of %v: %v, %d, not refused", r, w, e)
		}
		return
	}
	if want := (api.Root{P: square[0].Int64(), Q: square[1].Int64()}); w != want || e != api.OK {
		t.Errorf("Weight of %v: %v, %d, not %v", r, w, e, want)
	}
}

// A source of elements: the same ones each time.
type source uint64

func (s *source) next() uint64 {
	*s = *s*6364136223846793005 + 1442695040888963407
	return uint64(*s) ^ uint64(*s)>>29
}

// part has a length from 0 to most bits, so that small and great ones come alike.
func (s *source) part(most int) float64 {
	p := float64(s.next() & (1<<(s.next()%uint64(most+1)) - 1))
	if s.next()&1 == 0 {
		return 0 - p
	}
	return p
}

func (s *source) element(most int) api.Ring {
	return at(complex(s.part(most), s.part(most)), complex(s.part(most), s.part(most)))
}

// edges: elements of parts whose squares, products or sums are at the bound or one past it.
func edges() []api.Ring {
	l := []float64{0}
	for _, p := range []float64{1, 2, 0x1p26 - 1, 0x1p26, 94906265, 94906266, 0x1p52 - 1, 0x1p52, top} {
		l = append(l, p, -p)
	}
	var all []api.Ring
	for i, a := range l {
		for j, b := range l {
			for k, c := range l {
				all = append(all, at(complex(a, b), complex(c, l[(i+j+k)%len(l)])))
			}
		}
	}
	return all
}

func TestAgainstPowersAtEdges(t *testing.T) {
	l := edges()
	for i, r := range l {
		holdOne(t, r)
		holdTwo(t, r, l[(i*7+3)%len(l)])
		holdTwo(t, r, l[(i*11+5)%len(l)])
	}
}

// TestAgainstPowersSmall: all elements with parts from -2 to 2, and pairs of them.
func TestAgainstPowersSmall(t *testing.T) {
	var l []api.Ring
	for n := range 5 * 5 * 5 * 5 {
		l = append(l, at(complex(float64(n%5-2), float64(n/5%5-2)), complex(float64(n/25%5-2), float64(n/125-2))))
	}
	for i, r := range l {
		holdOne(t, r)
		for j := i % 23; j < len(l); j += 23 {
			holdTwo(t, r, l[j])
		}
	}
}

func TestAgainstPowersAtRandom(t *testing.T) {
	s := source(4)
	for range 2000 {
		for _, most := range []int{4, 13, 25, 26, 27, 52, 53} {
			r := s.element(most)
			holdOne(t, r)
			holdTwo(t, r, s.element(most))
			turned, _ := ring.Turn(r, int(s.next()))
			holdTwo(t, r, turned)
		}
	}
}
