package amp_test

import (
	exact "math/big"
	"testing"

	"cubit/amp"
	"cubit/api"
)

// The amplitudes once more, as sums of powers of w with whole numbers of any length ahead of them, over a power of the square root of 2: number j of four belongs to w^j, and w^4 is -1. So a + b i + (c + d i) w is a + c w + b w^2 + d w^3. No complex number, no float and no call of a layer is reckoned with.

type powers [4]*exact.Int

func powersOf(r api.Ring) powers {
	return powers{exact.NewInt(int64(real(r.A))), exact.NewInt(int64(real(r.B))), exact.NewInt(int64(imag(r.A))), exact.NewInt(int64(imag(r.B)))}
}

func none() powers { return powers{new(exact.Int), new(exact.Int), new(exact.Int), new(exact.Int)} }

// put adds n times w to the power k.
func (p powers) put(k int, n *exact.Int) {
	if k/4%2 == 1 {
		p[k%4].Sub(p[k%4], n)
		return
	}
	p[k%4].Add(p[k%4], n)
}

func (p powers) plus(q powers) powers {
	z := none()
	for k := range 4 {
		z.put(k, p[k])
		z.put(k, q[k])
	}
	return z
}

func (p powers) times(q powers) powers {
	z := none()
	for k := range 4 {
		for j := range 4 {
			z.put(k+j, new(exact.Int).Mul(p[k], q[j]))
		}
	}
	return z
}

// turned is p times w to the power by, by from 0 on.
func (p powers) turned(by int) powers {
	z := none()
	for k := range 4 {
		z.put(k+by, p[k])
	}
	return z
}

// conjugate puts w^7 for w.
func (p powers) conjugate() powers {
	z := none()
	for k := range 4 {
		z.put(7*k, p[k])
	}
	return z
}

// doubled is p times w - w^3.
func (p powers) doubled() powers {
	one := exact.NewInt(1)
	r := none()
	r.put(1, one)
	r.put(3+4, one)
	return p.times(r)
}

// halved: p over the square root of 2 is half of p times it.
func (p powers) halved() (powers, bool) {
	z := p.doubled()
	for _, n := range z {
		if n.Bit(0) == 1 {
			return powers{}, false
		}
		n.Rsh(n, 1)
	}
	return z, true
}

func beyond(n *exact.Int) bool { return n.CmpAbs(exact.NewInt(api.MaxPart)) > 0 }

func (p powers) fits() bool {
	for _, n := range p {
		if beyond(n) {
			return false
		}
	}
	return true
}

func (p powers) element() api.Ring {
	part := func(k int) float64 { return float64(p[k].Int64()) }
	return element(complex(part(0), part(2)), complex(part(1), part(3)))
}

// told is what a call should tell.
type told struct {
	a api.Amp
	e api.Errno
}

func refused(e api.Errno) told { return told{e: e} }

func formed(p powers, k int) told {
	for k > 0 {
		half, ok := p.halved()
		if !ok {
			break
		}
		p, k = half, k-1
	}
	if k > 60 {
		return refused(api.ErrBig)
	}
	return told{a: api.Amp{R: p.element(), K: k}}
}

func made(r api.Ring, k int) told {
	if k < 0 || k > 120 {
		return refused(api.ErrArg)
	}
	return formed(powersOf(r), k)
}

// sum takes the doublings one by one: each of them, and the sum, must fit.
func sum(a, b api.Amp) told {
	if a.K > b.K {
		a, b = b, a
	}
	p := powersOf(a.R)
	for range b.K - a.K {
		if p = p.doubled(); !p.fits() {
			return refused(api.ErrBig)
		}
	}
	if p = p.plus(powersOf(b.R)); !p.fits() {
		return refused(api.ErrBig)
	}
	return formed(p, b.K)
}

func product(a, b api.Amp) told {
	if productRefused(a.R, b.R) {
		return refused(api.ErrBig)
	}
	return formed(powersOf(a.R).times(powersOf(b.R)), a.K+b.K)
}

// productRefused: does a step on the way to a product leave the bound? Those are, for each of the four products of A or B with C or D, four products of parts, a difference and a sum, and then the sums of two of the four.
func productRefused(r, s api.Ring) bool {
	found := false
	mul := func(x, y complex128) powers {
		p, q := powersOf(element(x, 0)), powersOf(element(y, 0))
		for _, k := range []int{0, 2} {
			for _, j := range []int{0, 2} {
				found = found || beyond(new(exact.Int).Mul(p[k], q[j]))
			}
		}
		z := p.times(q)
		found = found || !z.fits()
		return z
	}
	a := mul(r.A, s.A).plus(mul(r.B, s.B).turned(2))
	b := mul(r.A, s.B).plus(mul(r.B, s.A))
	return found || !a.fits() || !b.fits()
}

// weight: the product with the conjugate is P + Q (w - w^3).
func weight(a api.Amp) (api.Root, api.Errno) {
	p := powersOf(a.R)
	square := p.times(p.conjugate())
	if beyond(square[0]) {
		return api.Root{}, api.ErrBig
	}
	w := api.Root{P: square[0].Int64(), Q: square[1].Int64(), K: a.K}
	for w.K > 0 && w.P%2 == 0 && w.Q%2 == 0 {
		w = api.Root{P: w.P / 2, Q: w.Q / 2, K: w.K - 1}
	}
	return w, api.OK
}

func expect(t *testing.T, name string, l []api.Amp, z api.Amp, e api.Errno, want told) {
	t.Helper()
	if !same(z, want.a) || e != want.e {
		t.Errorf("%s of %v: %v, %d, not %v, %d", name, l, z, e, want.a, want.e)
	}
	if f := amp.Check(z); f != api.OK {
		t.Errorf("%s of %v: %v, which Check refuses with %d", name, l, z, f)
	}
}

func holdTwo(t *testing.T, a, b api.Amp) {
	t.Helper()
	l := []api.Amp{a, b}
	z, e := amp.Add(a, b)
	expect(t, "Add", l, z, e, sum(a, b))
	z, e = amp.Mul(a, b)
	expect(t, "Mul", l, z, e, product(a, b))
}

func holdOne(t *testing.T, a api.Amp) {
	t.Helper()
	l, p := []api.Amp{a}, powersOf(a.R)
	z, e := amp.Conj(a)
	expect(t, "Conj", l, z, e, told{a: api.Amp{R: p.conjugate().element(), K: a.K}})
	for k := range 8 {
		want := told{a: api.Amp{R: p.turned(k).element(), K: a.K}}
		z, e = amp.Turn(a, k)
		expect(t, "Turn", l, z, e, want)
		z, e = amp.Turn(a, k-8)
		expect(t, "Turn back", l, z, e, want)
	}
	w, e := amp.Weight(a)
	if want, f := weight(a); w != want || e != f {
		t.Errorf("Weight of %v: %v, %d, not %v, %d", a, w, e, want, f)
	}
}

// A source of amplitudes: the same ones each time.
type source uint64

func (s *source) next() uint64 {
	*s = *s*6364136223846793005 + 1442695040888963407
	return uint64(*s) ^ uint64(*s)>>29
}

// below is a number from 0 to n - 1; the highest bits are taken, since the lowest ones repeat soon.
func (s *source) below(n int) int { return int((s.next() >> 33) % uint64(n)) }

// part has a length from 0 to most bits, so that small and great ones come alike.
func (s *source) part(most int) float64 {
	p := float64(s.next() >> 8 & (1<<s.below(most+1) - 1))
	if s.below(2) == 0 {
		return 0 - p
	}
	return p
}

func (s *source) element(most int) api.Ring {
	return element(complex(s.part(most), s.part(most)), complex(s.part(most), s.part(most)))
}

// amp is one whose K is at most highest.
func (s *source) amp(most, highest int) api.Amp {
	return formed(powersOf(s.element(most)), s.below(highest+1)).a
}

// edges: amplitudes of parts that are at the bound, or whose doublings, sums or products are at it or one past it, over the least and greatest powers.
func edges() []api.Amp {
	l := []float64{0}
	for _, p := range []float64{1, 2, 0x1p23 - 1, 0x1p23, 0x1p26, 94906265, 0x1p52 - 1, 0x1p52, top} {
		l = append(l, p, -p)
	}
	highest := []int{0, 1, 2, 30, 31, 59, 60}
	var all []api.Amp
	for i, a := range l {
		for j, b := range l {
			for k, c := range l {
				r := element(complex(a, b), complex(c, l[(i+j+k)%len(l)]))
				all = append(all, formed(powersOf(r), highest[(i+2*j+3*k)%len(highest)]).a)
			}
		}
	}
	return all
}

func TestAgainstPowersAtEdges(t *testing.T) {
	l := edges()
	for i, a := range l {
		holdOne(t, a)
		holdTwo(t, a, l[(i*31+7)%len(l)])
		holdTwo(t, a, l[(i*173+11)%len(l)])
		holdTwo(t, a, a)
	}
}

func TestAgainstPowersSmall(t *testing.T) {
	for n := range 3 * 3 * 3 * 3 * 3 * 3 * 3 * 3 {
		digit := func() float64 {
			d := n % 3
			n /= 3
			return float64(d - 1)
		}
		r := element(complex(digit(), digit()), complex(digit(), digit()))
		s := element(complex(digit(), digit()), complex(digit(), digit()))
		holdTwo(t, formed(powersOf(r), 2).a, formed(powersOf(s), 1).a)
	}
}

func TestAgainstPowersAtRandom(t *testing.T) {
	s := source(1)
	for range 1500 {
		for _, most := range []int{2, 6, 13, 23, 26, 53} {
			for _, highest := range []int{2, 33, 60} {
				a := s.amp(most, highest)
				holdOne(t, a)
				holdTwo(t, a, s.amp(most, highest))
			}
		}
	}
}

func holdMake(t *testing.T, r api.Ring, k int) {
	t.Helper()
	a, e := amp.Make(r, k)
	expect(t, "Make", []api.Amp{{R: r, K: k}}, a, e, made(r, k))
}

// TestMakeAgainstPowers: also of elements that can be halved often.
func TestMakeAgainstPowers(t *testing.T) {
	s := source(2)
	for range 60 {
		for _, most := range []int{1, 4, 20, 53} {
			p := powersOf(s.element(most))
			for n := 0; n < 110 && p.fits(); n++ {
				holdMake(t, p.element(), s.below(124)-2)
				p = p.doubled()
			}
		}
	}
}

// TestEveryPower: nought, and others doubled as often as can be, over each k.
func TestEveryPower(t *testing.T) {
	for k := -2; k <= 123; k++ {
		holdMake(t, element(0, 0), k)
		for _, r := range []api.Ring{element(1, 0), element(1, 1)} {
			for p := powersOf(r); p.fits(); p = p.doubled() {
				holdMake(t, p.element(), k)
			}
		}
	}
}
