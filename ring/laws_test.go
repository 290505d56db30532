package ring_test

import (
	"testing"

	"cubit/api"
	"cubit/ring"
)

// way is a way to an element by several calls; refused: one of them was.
type way struct{ refused bool }

func (w *way) keep(z api.Ring, e api.Errno) api.Ring {
	if e != api.OK {
		w.refused = true
		return api.Ring{}
	}
	return z
}

func (w *way) add(r, s api.Ring) api.Ring      { return w.keep(ring.Add(r, s)) }
func (w *way) sub(r, s api.Ring) api.Ring      { return w.keep(ring.Sub(r, s)) }
func (w *way) mul(r, s api.Ring) api.Ring      { return w.keep(ring.Mul(r, s)) }
func (w *way) turn(r api.Ring, k int) api.Ring { return w.keep(ring.Turn(r, k)) }
func (w *way) conj(r api.Ring) api.Ring        { return w.keep(ring.Conj(r)) }
func (w *way) star(r api.Ring) api.Ring        { return w.keep(ring.Star(r)) }
func (w *way) double(r api.Ring) api.Ring      { return w.keep(ring.Double(r)) }

// weight is the weight as an element: the square root of 2 is (1 - i) w.
func (w *way) weight(r api.Ring) api.Ring {
	p, e := ring.Weight(r)
	q := float64(p.Q)
	return w.keep(at(complex(float64(p.P), 0), complex(q, 0-q)), e)
}

// laws counts for each law how often it could be told.
type laws struct {
	t    *testing.T
	told map[string]int
}

func newLaws(t *testing.T) *laws { return &laws{t, map[string]int{}} }

// hold asks for the same on both ways, where no call refused.
func (l *laws) hold(name string, left, right func(w *way) api.Ring) {
	l.t.Helper()
	w := &way{}
	p, q := left(w), right(w)
	l.told[name] += 0
	if w.refused {
		return
	}
	l.told[name]++
	if !same(p, q) {
		l.t.Errorf("%s: %v and %v", name, p, q)
	}
}

// end asks that no law was held up by refusals alone.
func (l *laws) end() {
	for name, n := range l.told {
		if n < 500 {
			l.t.Errorf("%s: told %d times only", name, n)
		}
	}
}

// triples: ordinary elements, and such near the bound, where some laws can just be told.
func triples() [][3]api.Ring {
	var l [][3]api.Ring
	s := source(5)
	for range 500 {
		for _, most := range []int{3, 8, 13, 17, 26, 52, 53} {
			l = append(l, [3]api.Ring{s.element(most), s.element(most), s.element(most)})
		}
	}
	few := []api.Ring{at(0, 0), at(1, 0), at(0, -1), at(1i, 1), at(1-1i, 1+1i), at(top, 0), at(0, complex(0, -top)), at(complex(-top, 1), complex(2, top))}
	for _, x := range few {
		for _, y := range few {
			for _, z := range few {
				l = append(l, [3]api.Ring{x, y, z})
			}
		}
	}
	return l
}

func TestRing(t *testing.T) {
	l := newLaws(t)
	for _, e := range triples() {
		x, y, z := e[0], e[1], e[2]
		l.hold("the order of a sum", func(w *way) api.Ring { return w.add(x, y) }, func(w *way) api.Ring { return w.add(y, x) })
		l.hold("the order of a product", func(w *way) api.Ring { return w.mul(x, y) }, func(w *way) api.Ring { return w.mul(y, x) })
		l.hold("a sum's brackets", func(w *way) api.Ring { return w.add(w.add(x, y), z) }, func(w *way) api.Ring { return w.add(x, w.add(y, z)) })
		l.hold("a product's brackets", func(w *way) api.Ring { return w.mul(w.mul(x, y), z) }, func(w *way) api.Ring { return w.mul(x, w.mul(y, z)) })
		l.hold("a product with a sum", func(w *way) api.Ring { return w.mul(x, w.add(y, z)) }, func(w *way) api.Ring { return w.add(w.mul(x, y), w.mul(x, z)) })
		l.hold("a sum taken back", func(w *way) api.Ring { return w.sub(w.add(x, y), y) }, func(w *way) api.Ring { return x })
	}
	l.end()
}

func TestTurnsAreProducts(t *testing.T) {
	l := newLaws(t)
	for _, e := range triples() {
		x, by := e[0], at(1, 0)
		for k := range 8 {
			l.hold("a turn", func(w *way) api.Ring { return w.turn(x, k) }, func(w *way) api.Ring { return w.mul(x, by) })
			l.hold("a turn taken back", func(w *way) api.Ring { return w.turn(w.turn(x, k), -k) }, func(w *way) api.Ring { return x })
			by = (&way{}).mul(by, at(0, 1))
		}
		if by != at(1, 0) {
			t.Fatalf("w to the power 8 is %v", by)
		}
	}
	l.end()
}

func TestConjAndStar(t *testing.T) {
	l := newLaws(t)
	for _, e := range triples() {
		x, y := e[0], e[1]
		for name, f := range map[string]func(*way, api.Ring) api.Ring{"Conj": (*way).conj, "Star": (*way).star} {
			l.hold(name+" taken back", func(w *way) api.Ring { return f(w, f(w, x)) }, func(w *way) api.Ring { return x })
			l.hold(name+" of a sum", func(w *way) api.Ring { return f(w, w.add(x, y)) }, func(w *way) api.Ring { return w.add(f(w, x), f(w, y)) })
			l.hold(name+" of a product", func(w *way) api.Ring { return f(w, w.mul(x, y)) }, func(w *way) api.Ring { return w.mul(f(w, x), f(w, y)) })
		}
	}
	l.end()
}

// TestDoubleIsAProduct: with the square root of 2, which put for its negative turns a sign.
func TestDoubleIsAProduct(t *testing.T) {
	l := newLaws(t)
	for _, e := range triples() {
		x := e[0]
		l.hold("Double", func(w *way) api.Ring { return w.double(x) }, func(w *way) api.Ring { return w.mul(x, at(0, 1-1i)) })
		l.hold("Double twice", func(w *way) api.Ring { return w.double(w.double(x)) }, func(w *way) api.Ring { return w.add(x, x) })
		l.hold("Star of Double", func(w *way) api.Ring { return w.star(w.double(x)) }, func(w *way) api.Ring { return w.turn(w.double(w.star(x)), 4) })
	}
	l.end()
}

func TestHalveAndDouble(t *testing.T) {
	back, forth := 0, 0
	for _, e := range triples() {
		for _, x := range e {
			if d, e := ring.Double(x); e == api.OK {
				back++
				if h, ok, e := ring.Halve(d); !same(h, x) || !ok || e != api.OK {
					t.Errorf("Halve(Double(%v)): %v, %v, %d", x, h, ok, e)
				}
			}
			h, ok, e := ring.Halve(x)
			if !ok {
				continue
			}
			if d, f := ring.Double(h); e != api.OK || f != api.OK || !same(d, x) {
				t.Errorf("Double(Halve(%v)): %v, %d, %d", x, d, e, f)
			}
			forth++
		}
	}
	if back < 500 || forth < 500 {
		t.Errorf("only %d and %d were told", back, forth)
	}
}

func TestWeights(t *testing.T) {
	l := newLaws(t)
	for _, e := range triples() {
		x, y := e[0], e[1]
		l.hold("the product with Conj", func(w *way) api.Ring { return w.mul(x, w.conj(x)) }, func(w *way) api.Ring { return w.weight(x) })
		l.hold("the weight of a product", func(w *way) api.Ring { return w.weight(w.mul(x, y)) }, func(w *way) api.Ring { return w.mul(w.weight(x), w.weight(y)) })
		l.hold("the weight of Double", func(w *way) api.Ring { return w.weight(w.double(x)) }, func(w *way) api.Ring { return w.add(w.weight(x), w.weight(x)) })
	}
	l.end()
}

// TestWeightsStay: they are refused alike, too.
func TestWeightsStay(t *testing.T) {
	for _, l := range triples() {
		for _, x := range l {
			want, e := ring.Weight(x)
			stays := func(name string, y api.Ring, want api.Root) {
				if got, f := ring.Weight(y); got != want || f != e {
					t.Errorf("Weight of %s of %v: %v, %d, not %v, %d", name, x, got, f, want, e)
				}
			}
			w := &way{}
			for k := range 8 {
				stays("Turn", w.turn(x, k), want)
			}
			stays("Conj", w.conj(x), want)
			stays("Star", w.star(x), api.Root{P: want.P, Q: -want.Q})
		}
	}
}
