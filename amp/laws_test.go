package amp_test

import (
	"testing"

	"cubit/amp"
	"cubit/api"
	"cubit/ring"
	"cubit/root"
)

// way is a way to an amplitude by several calls; refused: one of them was.
type way struct{ refused bool }

func (w *way) keep(a api.Amp, e api.Errno) api.Amp {
	if e != api.OK {
		w.refused = true
		return api.Amp{}
	}
	return a
}

func (w *way) keepRoot(r api.Root, e api.Errno) api.Root {
	if e != api.OK {
		w.refused = true
		return api.Root{}
	}
	return r
}

func (w *way) make(r api.Ring, k int) api.Amp { return w.keep(amp.Make(r, k)) }
func (w *way) add(a, b api.Amp) api.Amp       { return w.keep(amp.Add(a, b)) }
func (w *way) mul(a, b api.Amp) api.Amp       { return w.keep(amp.Mul(a, b)) }
func (w *way) turn(a api.Amp, k int) api.Amp  { return w.keep(amp.Turn(a, k)) }
func (w *way) conj(a api.Amp) api.Amp         { return w.keep(amp.Conj(a)) }
func (w *way) weight(a api.Amp) api.Root      { return w.keepRoot(amp.Weight(a)) }

// double is of a ring element, as ring does it.
func (w *way) double(r api.Ring) api.Ring {
	d, e := ring.Double(r)
	w.refused = w.refused || e != api.OK
	return d
}

// laws counts for each law how often it could be told.
type laws struct {
	t    *testing.T
	told map[string]int
}

func newLaws(t *testing.T) *laws { return &laws{t, map[string]int{}} }

// hold asks for the same on both ways, where no call refused.
func (l *laws) hold(name string, left, right func(w *way) api.Amp) {
	l.t.Helper()
	w := &way{}
	p, q := left(w), right(w)
	l.told[name] += 0
	if w.refused {
		return
	}
	l.told[name]++
	if !same(p, q) {
		l.t.Errorf("%s: %v and %v", name, p, q)
	}
}

func (l *laws) holdRoots(name string, left, right func(w *way) api.Root) {
	l.t.Helper()
	w := &way{}
	p, q := left(w), right(w)
	l.told[name] += 0
	if w.refused {
		return
	}
	l.told[name]++
	if p != q {
		l.t.Errorf("%s: %v and %v", name, p, q)
	}
}

// end asks that no law was held up by refusals alone.
func (l *laws) end() {
	for name, n := range l.told {
		if n < 1000 {
			l.t.Errorf("%s: told %d times only", name, n)
		}
	}
}

// triples: ordinary amplitudes, and such near the bounds, where some laws can just be told.
func triples() [][3]api.Amp {
	var l [][3]api.Amp
	s := source(5)
	for range 300 {
		for _, most := range []int{1, 3, 8, 17, 26, 53} {
			for _, highest := range []int{0, 3, 20, power} {
				l = append(l, [3]api.Amp{s.amp(most, highest), s.amp(most, highest), s.amp(most, highest)})
			}
		}
	}
	few := []api.Amp{at(0, 0, 0), at(1, 0, 0), at(1, 0, 1), at(0, -1, 2), at(1i, 1, 31), at(1, 1, 30), at(0, 1-1i, 0), at(1, 0, 60), at(top, 0, 0), at(complex(-top, 1), complex(2, top), 60)}
	for _, x := range few {
		for _, y := range few {
			for _, z := range few {
				l = append(l, [3]api.Amp{x, y, z})
			}
		}
	}
	return l
}

func TestRing(t *testing.T) {
	l := newLaws(t)
	for _, e := range triples() {
		x, y, z := e[0], e[1], e[2]
		l.hold("the order of a sum", func(w *way) api.Amp { return w.add(x, y) }, func(w *way) api.Amp { return w.add(y, x) })
		l.hold("the order of a product", func(w *way) api.Amp { return w.mul(x, y) }, func(w *way) api.Amp { return w.mul(y, x) })
		l.hold("a sum's brackets", func(w *way) api.Amp { return w.add(w.add(x, y), z) }, func(w *way) api.Amp { return w.add(x, w.add(y, z)) })
		l.hold("a product's brackets", func(w *way) api.Amp { return w.mul(w.mul(x, y), z) }, func(w *way) api.Amp { return w.mul(x, w.mul(y, z)) })
		l.hold("a product with a sum", func(w *way) api.Amp { return w.mul(x, w.add(y, z)) }, func(w *way) api.Amp { return w.add(w.mul(x, y), w.mul(x, z)) })
		l.hold("a sum with nought", func(w *way) api.Amp { return w.add(x, at(0, 0, 0)) }, func(w *way) api.Amp { return x })
		l.hold("a product with 1", func(w *way) api.Amp { return w.mul(x, at(1, 0, 0)) }, func(w *way) api.Amp { return x })
	}
	l.end()
}

func TestConjAndTurns(t *testing.T) {
	l := newLaws(t)
	for _, e := range triples() {
		x, y := e[0], e[1]
		l.hold("Conj twice", func(w *way) api.Amp { return w.conj(w.conj(x)) }, func(w *way) api.Amp { return x })
		l.hold("Conj of a sum", func(w *way) api.Amp { return w.conj(w.add(x, y)) }, func(w *way) api.Amp { return w.add(w.conj(x), w.conj(y)) })
		l.hold("Conj of a product", func(w *way) api.Amp { return w.conj(w.mul(x, y)) }, func(w *way) api.Amp { return w.mul(w.conj(x), w.conj(y)) })
		l.hold("eight turns", func(w *way) api.Amp {
			z := x
			for range 8 {
				z = w.turn(z, 1)
			}
			return z
		}, func(w *way) api.Amp { return x })
		l.hold("a turn", func(w *way) api.Amp { return w.turn(x, 1) }, func(w *way) api.Amp { return w.mul(x, at(0, 1, 0)) })
	}
	l.end()
}

// TestWeightsStay: they are refused alike, too.
func TestWeightsStay(t *testing.T) {
	for _, l := range triples() {
		for _, x := range l {
			want, e := amp.Weight(x)
			stays := func(name string, y api.Amp) {
				if got, f := amp.Weight(y); got != want || f != e {
					t.Errorf("Weight of %s of %v: %v, %d, not %v, %d", name, x, got, f, want, e)
				}
			}
			w := &way{}
			stays("Conj", w.conj(x))
			for k := range 8 {
				stays("Turn", w.turn(x, k))
			}
		}
	}
}

func TestWeights(t *testing.T) {
	l := newLaws(t)
	for _, e := range triples() {
		x, y := e[0], e[1]
		l.holdRoots("the weight of a product", func(w *way) api.Root { return w.weight(w.mul(x, y)) }, func(w *way) api.Root { return w.keepRoot(root.Mul(w.weight(x), w.weight(y))) })
		l.hold("the product with Conj", func(w *way) api.Amp { return w.mul(x, w.conj(x)) }, func(w *way) api.Amp {
			p := w.weight(x)
			q := float64(p.Q)
			return w.make(element(complex(float64(p.P), 0), complex(q, 0-q)), 2*p.K)
		})
	}
	l.end()
}

// TestOneForm: what is made of r over k is made of r times the square root of 2 over k + 1 too; and what is made stays, if it is made once more.
func TestOneForm(t *testing.T) {
	l := newLaws(t)
	for _, e := range triples() {
		for _, x := range e {
			r := x.R
			for _, k := range []int{x.K, x.K + 1, 0, 59, 60, 61, 119, 120} {
				l.hold("doubled", func(w *way) api.Amp { return w.make(r, k) }, func(w *way) api.Amp { return w.make(w.double(r), k+1) })
			}
			l.hold("made again", func(w *way) api.Amp { return w.make(x.R, x.K) }, func(w *way) api.Amp { return x })
		}
	}
	l.end()
}

// TestUnlikeAreUnlike: amplitudes in their one form that differ have a difference other than nought.
func TestUnlikeAreUnlike(t *testing.T) {
	told := 0
	for _, e := range triples() {
		w := &way{}
		x, y := e[0], e[1]
		z := w.add(x, w.turn(y, 4))
		if w.refused {
			continue
		}
		if same(z, api.Amp{}) != same(x, y) {
			t.Errorf("%v less %v: %v", x, y, z)
		}
		told++
	}
	if told < 1000 {
		t.Errorf("only %d were told", told)
	}
}
