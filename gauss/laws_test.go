package gauss_test

import (
	"testing"

	"cubit/api"
	"cubit/gauss"
)

// way is a way to a number by several calls; refused: one of them was.
type way struct{ refused bool }

func (w *way) by(f two, x, y complex128) complex128 {
	z, e := f(x, y)
	return w.keep(z, e)
}

func (w *way) keep(z complex128, e api.Errno) complex128 {
	if e != api.OK {
		w.refused = true
		return 0
	}
	return z
}

func (w *way) add(x, y complex128) complex128 { return w.by(gauss.Add, x, y) }
func (w *way) sub(x, y complex128) complex128 { return w.by(gauss.Sub, x, y) }
func (w *way) mul(x, y complex128) complex128 { return w.by(gauss.Mul, x, y) }

func (w *way) turn(x complex128, k int) complex128 {
	z, e := gauss.Turn(x, k)
	return w.keep(z, e)
}

func (w *way) conj(x complex128) complex128 {
	z, e := gauss.Conj(x)
	return w.keep(z, e)
}

func (w *way) norm(x complex128) complex128 {
	n, e := gauss.Norm(x)
	return w.keep(complex(float64(n), 0), e)
}

// law asks for the same on both ways, where no call refused.
func law(t *testing.T, name string, left, right func(w *way) complex128) {
	t.Helper()
	w := &way{}
	p, q := left(w), right(w)
	if !w.refused && !same(p, q) {
		t.Errorf("%s: %v and %v", name, p, q)
	}
}

// triples: ordinary numbers, and such near the bound, where some laws can just be told.
func triples() [][3]complex128 {
	var l [][3]complex128
	s := source(3)
	for range 500 {
		for _, most := range []int{3, 8, 13, 17, 26, 52, 53} {
			l = append(l, [3]complex128{s.number(most), s.number(most), s.number(most)})
		}
	}
	few := []complex128{0, 1, -1, 1i, -1i, 1 + 1i, -2 + 1i, complex(top, 0), complex(0, -top), complex(-top, top)}
	for _, x := range few {
		for _, y := range few {
			for _, z := range few {
				l = append(l, [3]complex128{x, y, z})
			}
		}
	}
	return l
}

func TestRing(t *testing.T) {
	for _, l := range triples() {
		x, y, z := l[0], l[1], l[2]
		law(t, "the order of a sum", func(w *way) complex128 { return w.add(x, y) }, func(w *way) complex128 { return w.add(y, x) })
		law(t, "the order of a product", func(w *way) complex128 { return w.mul(x, y) }, func(w *way) complex128 { return w.mul(y, x) })
		law(t, "a sum's brackets", func(w *way) complex128 { return w.add(w.add(x, y), z) }, func(w *way) complex128 { return w.add(x, w.add(y, z)) })
		law(t, "a product's brackets", func(w *way) complex128 { return w.mul(w.mul(x, y), z) }, func(w *way) complex128 { return w.mul(x, w.mul(y, z)) })
		law(t, "a product with a sum", func(w *way) complex128 { return w.mul(x, w.add(y, z)) }, func(w *way) complex128 { return w.add(w.mul(x, y), w.mul(x, z)) })
		law(t, "a sum taken back", func(w *way) complex128 { return w.sub(w.add(x, y), y) }, func(w *way) complex128 { return x })
		law(t, "a product with the conjugate", func(w *way) complex128 { return w.mul(x, w.conj(x)) }, func(w *way) complex128 { return w.norm(x) })
		law(t, "the norm of a product", func(w *way) complex128 { return w.norm(w.mul(x, y)) }, func(w *way) complex128 { return w.mul(w.norm(x), w.norm(y)) })
		for k := -5; k <= 5; k++ {
			j := int(real(y)) % 1000
			law(t, "two turns", func(w *way) complex128 { return w.turn(w.turn(x, k), j) }, func(w *way) complex128 { return w.turn(x, k+j) })
		}
	}
}

// TestRefusesAlike: the two of a sum and of a product are refused in either order or in none.
func TestRefusesAlike(t *testing.T) {
	for _, l := range triples() {
		for _, f := range []two{gauss.Add, gauss.Mul} {
			_, e := f(l[0], l[1])
			if _, back := f(l[1], l[0]); e != back {
				t.Errorf("%v, %v: %d one way, %d the other", l[0], l[1], e, back)
			}
		}
	}
}

// TestDivision: of all numbers that Divide takes.
func TestDivision(t *testing.T) {
	taken := 0
	for _, l := range triples() {
		x, y := l[0], l[1]
		q, r, e := gauss.Divide(x, y)
		if y == 0 {
			if !same(q, 0) || !same(r, 0) || e != api.ErrZero {
				t.Errorf("Divide(%v, %v): %v, %v, %d", x, y, q, r, e)
			}
			continue
		}
		if e != api.OK {
			if !same(q, 0) || !same(r, 0) || e != api.ErrBig {
				t.Errorf("Divide(%v, %v): %v, %v, %d", x, y, q, r, e)
			}
			continue
		}
		taken++
		law(t, "q y + r", func(w *way) complex128 { return w.add(w.mul(q, y), r) }, func(w *way) complex128 { return x })
		m, e := gauss.Norm(r)
		n, f := gauss.Norm(y)
		if e != api.OK || f != api.OK || 2*m > n {
			t.Errorf("Divide(%v, %v): the rest %v is too great", x, y, r)
		}
	}
	if taken < 1000 {
		t.Errorf("only %d divisions were told", taken)
	}
}

// divides: without rest; 0 divides 0 alone.
func divides(t *testing.T, d, x complex128) bool {
	t.Helper()
	if d == 0 {
		return x == 0
	}
	_, r, e := gauss.Divide(x, d)
	if e != api.OK {
		t.Fatalf("Divide(%v, %v): %d", x, d, e)
	}
	return r == 0
}

// TestGreatest: of all pairs of small numbers, against all small divisors.
func TestGreatest(t *testing.T) {
	const side = 13
	for n := range side * side * side * side {
		x := complex(float64(n%side-6), float64(n/side%side-6))
		y := complex(float64(n/side/side%side-6), float64(n/side/side/side-6))
		g, e := gauss.Gcd(x, y)
		if back, f := gauss.Gcd(y, x); e != api.OK || f != api.OK || !same(g, back) {
			t.Fatalf("Gcd of %v and %v: %v, %d, but %v, %d", x, y, g, e, back, f)
		}
		if !divides(t, g, x) || !divides(t, g, y) {
			t.Fatalf("Gcd(%v, %v): %v divides not both", x, y, g)
		}
		if g != 0 && !(real(g) > 0 && imag(g) >= 0) {
			t.Fatalf("Gcd(%v, %v): %v is not in its one form", x, y, g)
		}
		for m := range 64 {
			d := complex(float64(m%8+1), float64(m/8)) // all up to their turns, below the greatest norm
			if divides(t, d, x) && divides(t, d, y) && !divides(t, d, g) {
				t.Fatalf("Gcd(%v, %v): %v, but %v divides both", x, y, g, d)
			}
		}
	}
}

// TestGreatestOfProducts: a common factor that is laid in is found again, with great numbers too.
func TestGreatestOfProducts(t *testing.T) {
	s := source(4)
	told := 0
	for range 4000 {
		w := &way{}
		d := s.number(8)
		x, y := w.mul(d, s.number(16)), w.mul(d, s.number(16))
		g, e := gauss.Gcd(x, y)
		back, f := gauss.Gcd(y, x)
		if w.refused || e != api.OK || f != api.OK {
			continue
		}
		told++
		if !same(g, back) || !divides(t, g, x) || !divides(t, g, y) || d != 0 && !divides(t, d, g) {
			t.Errorf("Gcd(%v, %v): %v, with the common factor %v", x, y, g, d)
		}
	}
	if told < 1000 {
		t.Errorf("only %d were told", told)
	}
}
