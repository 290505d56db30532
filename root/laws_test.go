package root_test

import (
	"testing"

	"cubit/api"
	"cubit/root"
)

// way is a way to a root by several calls; refused: one of them was.
type way struct{ refused bool }

func (w *way) keep(z api.Root, e api.Errno) api.Root {
	if e != api.OK {
		w.refused = true
		return api.Root{}
	}
	return z
}

func (w *way) add(a, b api.Root) api.Root { return w.keep(root.Add(a, b)) }
func (w *way) sub(a, b api.Root) api.Root { return w.keep(root.Sub(a, b)) }
func (w *way) mul(a, b api.Root) api.Root { return w.keep(root.Mul(a, b)) }

// laws counts for each law how often it could be told.
type laws struct {
	t    *testing.T
	told map[string]int
}

func newLaws(t *testing.T) *laws { return &laws{t, map[string]int{}} }

// hold asks for the same on both ways, where no call refused.
func (l *laws) hold(name string, left, right func(w *way) api.Root) {
	l.t.Helper()
	w := &way{}
	p, q := left(w), right(w)
	l.told[name] += 0
	if w.refused {
		return
	}
	l.told[name]++
	if p != q {
		l.t.Errorf("%s: %v and %v", name, p, q)
	}
}

// end asks that no law was held up by refusals alone.
func (l *laws) end() {
	for name, n := range l.told {
		if n < 500 {
			l.t.Errorf("%s: told %d times only", name, n)
		}
	}
}

// triples: ordinary roots, such near the bounds, where some laws can just be told, and all three of a few.
func triples() [][3]api.Root {
	var l [][3]api.Root
	s := source(5)
	for range 700 {
		for _, c := range [][2]int{{3, 0}, {4, 3}, {13, 9}, {17, 20}, {26, 0}, {26, power}, {52, 1}, {53, power}} {
			l = append(l, [3]api.Root{s.root(c[0], c[1]), s.root(c[0], c[1]), s.root(c[0], c[1])})
		}
	}
	few := []api.Root{at(0, 0, 0), at(1, 0, 0), at(0, -1, 0), at(3, -2, 1), at(-7, 5, 3), at(1, 0, power), at(top, 0, 0), at(0, -top, power), at(-top, top, 1), at(6369051672525773, -4503599627370496, 0)}
	for _, a := range few {
		for _, b := range few {
			for _, c := range few {
				l = append(l, [3]api.Root{a, b, c})
			}
		}
	}
	return l
}

func TestReckoning(t *testing.T) {
	l := newLaws(t)
	for _, e := range triples() {
		a, b, c := e[0], e[1], e[2]
		l.hold("a sum's brackets", func(w *way) api.Root { return w.add(a, w.add(b, c)) }, func(w *way) api.Root { return w.add(w.add(a, b), c) })
		l.hold("a product with a sum", func(w *way) api.Root { return w.mul(a, w.add(b, c)) }, func(w *way) api.Root { return w.add(w.mul(a, b), w.mul(a, c)) })
		l.hold("a root less itself", func(w *way) api.Root { return w.sub(a, a) }, func(w *way) api.Root { return api.Root{} })
		l.hold("a sum taken back", func(w *way) api.Root { return w.sub(w.add(a, b), b) }, func(w *way) api.Root { return a })
	}
	l.end()
}

// TestOrderOfTwo: both orders are refused alike, too.
func TestOrderOfTwo(t *testing.T) {
	for _, l := range triples() {
		for name, f := range map[string]two{"Add": root.Add, "Mul": root.Mul} {
			y, e := f(l[0], l[1])
			if z, g := f(l[1], l[0]); y != z || e != g {
				t.Errorf("%s of %v and %v: %v, %d and %v, %d", name, l[0], l[1], y, e, z, g)
			}
		}
	}
}

// TestOneForm: what is answered, Check takes.
func TestOneForm(t *testing.T) {
	for _, l := range triples() {
		for name, f := range map[string]two{"Add": root.Add, "Sub": root.Sub, "Mul": root.Mul} {
			if z, _ := f(l[0], l[1]); root.Check(z) != api.OK {
				t.Errorf("%s of %v and %v: %v", name, l[0], l[1], z)
			}
		}
	}
}

func compare(t *testing.T, a, b api.Root) int {
	t.Helper()
	s, e := root.Compare(a, b)
	if e != api.OK || s < -1 || s > 1 {
		t.Fatalf("Compare(%v, %v): %d, %d", a, b, s, e)
	}
	return s
}

func sign(t *testing.T, a api.Root) int {
	t.Helper()
	s, e := root.Sign(a)
	if e != api.OK || s < -1 || s > 1 {
		t.Fatalf("Sign(%v): %d, %d", a, s, e)
	}
	return s
}

func TestOrdered(t *testing.T) {
	chains := 0
	for _, l := range triples() {
		a, b, c := l[0], l[1], l[2]
		ab := compare(t, a, b)
		if (ab == 0) != (a == b) {
			t.Errorf("Compare(%v, %v): %d", a, b, ab)
		}
		if ba := compare(t, b, a); ba != -ab {
			t.Errorf("Compare of %v and %v: %d and %d", a, b, ab, ba)
		}
		if ab >= 0 && compare(t, b, c) >= 0 {
			chains++
			if compare(t, a, c) < 0 {
				t.Errorf("%v is not below %v, and that not below %v", a, b, c)
			}
		}
		if s := sign(t, a); s != compare(t, a, api.Root{}) {
			t.Errorf("Sign(%v): %d", a, s)
		}
	}
	if chains < 500 {
		t.Errorf("only %d chains", chains)
	}
}

func TestSignOfSub(t *testing.T) {
	told := map[int]int{}
	for _, l := range triples() {
		d, e := root.Sub(l[0], l[1])
		if e != api.OK {
			continue
		}
		s := sign(t, d)
		if want := compare(t, l[0], l[1]); s != want {
			t.Errorf("Sign(Sub(%v, %v)): %d, not %d", l[0], l[1], s, want)
		}
		told[s]++
	}
	if told[1] < 500 || told[-1] < 500 || told[0] < 10 {
		t.Errorf("told: %v", told)
	}
}

func TestSignOfMul(t *testing.T) {
	told := map[int]int{}
	for _, l := range triples() {
		z, e := root.Mul(l[0], l[1])
		if e != api.OK {
			continue
		}
		s := sign(t, z)
		if want := sign(t, l[0]) * sign(t, l[1]); s != want {
			t.Errorf("Sign(Mul(%v, %v)): %d, not %d", l[0], l[1], s, want)
		}
		told[s]++
	}
	if told[1] < 500 || told[-1] < 500 || told[0] < 10 {
		t.Errorf("told: %v", told)
	}
}
