package tableau_test

import (
	"math"
	"testing"

	"cubit/api"
	"cubit/tableau"
)

var (
	null  = api.Root{}
	half  = api.Root{P: 1, K: 1}
	whole = api.Root{P: 1}
)

func engine(t *testing.T, n int) *tableau.Engine {
	t.Helper()
	x, e := tableau.New(n)
	if x == nil || e != api.OK {
		t.Fatalf("New(%d): %v, %d", n, x, e)
	}
	return x
}

// A twin is an engine, and the rows that it has to have by the chapter's words. Each call is made of both, and the answers are held against each other.
type twin struct {
	x    *tableau.Engine
	n    int
	rows []word
}

func twinOf(t *testing.T, n int) *twin {
	t.Helper()
	w := &twin{x: engine(t, n), n: n}
	for _, letter := range []byte("XZ") {
		for q := range n {
			w.rows = append(w.rows, one(n, q, letter))
		}
	}
	w.is(t)
	return w
}

// is asks that the engine has the twin's rows.
func (w *twin) is(t *testing.T) {
	t.Helper()
	if a, want := w.x.Tableau(), tableauOf(w.n, w.rows); !same(a, want) {
		t.Fatalf("the engine has %s, not %s", text(a), text(want))
	}
}

func (w *twin) apply(t *testing.T, name string, qubits []int) api.Errno {
	t.Helper()
	want := wantedError(w.n, name, qubits)
	if e := w.x.Apply(name, qubits); e != want {
		t.Fatalf("%q on %v of %v: %d, not %d", name, qubits, w.rows, e, want)
	}
	if want == api.OK {
		for j, row := range w.rows {
			w.rows[j] = turn(row, name, qubits)
		}
	}
	w.is(t)
	return want
}

func (w *twin) has(qubit int) bool { return qubit >= 0 && qubit < w.n }

// weights are what the chapter's words say of the outcome.
func (w *twin) weights(t *testing.T, qubit int) api.Errno {
	t.Helper()
	one, all, e := half, whole, api.OK
	if !w.has(qubit) {
		one, all, e = null, null, api.ErrIndex
	} else if bit, certain := outcome(w.n, w.rows, qubit); certain {
		one = []api.Root{null, whole}[bit]
	}
	if p, q, f := w.x.Weights(qubit); p != one || q != all || f != e {
		t.Fatalf("Weights of %v at %d: %v, %v, %d, not %v, %v, %d", w.rows, qubit, p, q, f, one, all, e)
	}
	w.is(t)
	return e
}

func (w *twin) project(t *testing.T, qubit, bit int) api.Errno {
	t.Helper()
	next, want := w.rows, api.OK
	switch {
	case !w.has(qubit):
		want = api.ErrIndex
	case bit != 0 && bit != 1:
		want = api.ErrArg
	default:
		next, want = part(w.n, w.rows, qubit, bit)
	}
	if e := w.x.Project(qubit, bit); e != want {
		t.Fatalf("Project of %v at %d onto %d: %d, not %d", w.rows, qubit, bit, e, want)
	}
	if want == api.OK {
		w.rows = next
	}
	w.is(t)
	return want
}

// step is any call, right or wrong; it tells the error.
func (w *twin) step(t *testing.T, s *source) api.Errno {
	t.Helper()
	switch s.below(6) {
	case 0:
		return w.project(t, s.place(w.n), s.bit())
	case 1:
		return w.weights(t, s.place(w.n))
	}
	name, qubits := s.anyGate(w.n)
	return w.apply(t, name, qubits)
}

// P18.1: lists of calls. Each list has calls that are refused in it, which change nothing, and goes on behind them.
func TestListsOfCalls(t *testing.T) {
	s := source(51)
	errors := map[api.Errno]int{}
	for j := range 300 {
		w := twinOf(t, j%8)
		for range 60 {
			errors[w.step(t, &s)]++
		}
	}
	for _, e := range []api.Errno{api.OK, api.ErrArg, api.ErrGate, api.ErrArity, api.ErrIndex, api.ErrSame, api.ErrNull, api.ErrClifford} {
		if errors[e] < 15 {
			t.Errorf("error %d came %d times", e, errors[e])
		}
	}
}

// P18.1: so with 64 qubits.
func TestListsOfCallsOn64Qubits(t *testing.T) {
	s := source(52)
	w := twinOf(t, 64)
	for range 300 {
		w.step(t, &s)
	}
}

// P18.1: New of each number of qubits that there is, and of those beside them.
func TestNew(t *testing.T) {
	for n := range 65 {
		w := twinOf(t, n)
		if !same(w.x.Tableau(), zero(t, n)) {
			t.Errorf("New(%d): %s", n, text(w.x.Tableau()))
		}
		for q := range n {
			if one, all, e := w.x.Weights(q); one != null || all != whole || e != api.OK {
				t.Errorf("Weights of New(%d) at %d: %v, %v, %d", n, q, one, all, e)
			}
		}
	}
	for _, n := range []int{-1, -64, 65, 128, math.MinInt, math.MaxInt} {
		if x, e := tableau.New(n); x != nil || e != api.ErrArg {
			t.Errorf("New(%d): %v, %d", n, x, e)
		}
	}
}

// P18.1: an engine's errors are those of the functions, and change nothing.
func TestEngineRefuses(t *testing.T) {
	for _, c := range calls() {
		x := engine(t, c.n)
		if c.n > 0 && x.Apply("h", []int{0}) != api.OK {
			t.Fatal("h")
		}
		before := x.Tableau()
		if e := x.Apply(c.name, c.qubits); e != c.e {
			t.Errorf("%q on %d qubits of %d: %d, not %d", c.name, len(c.qubits), c.n, e, c.e)
		}
		if after := x.Tableau(); c.e != api.OK && !same(before, after) {
			t.Errorf("%q on %d qubits of %d changed the tableau", c.name, len(c.qubits), c.n)
		}
	}
	for _, n := range []int{0, 1, 2, 63, 64} {
		w := twinOf(t, n)
		for q := range n {
			w.apply(t, []string{"h", "x", "i"}[q%3], []int{q})
		}
		for _, q := range beside(n) {
			w.weights(t, q)
			for _, bit := range append([]int{0, 1}, noBits...) {
				w.project(t, q, bit)
			}
		}
		for q := range n {
			for _, bit := range noBits {
				if e := w.project(t, q, bit); e != api.ErrArg {
					t.Errorf("Project at %d onto %d: %d", q, bit, e)
				}
			}
			if q%3 > 0 {
				if e := w.project(t, q, 1-q%3%2); e != api.ErrNull {
					t.Errorf("Project at %d onto the other outcome: %d", q, e)
				}
			}
		}
	}
}

// P18.1: weights where the outcome is 0, 1, or not certain, and behind it.
func TestWeights(t *testing.T) {
	x := engine(t, 3)
	want := func(qubit int, weight api.Root) {
		t.Helper()
		if one, all, e := x.Weights(qubit); one != weight || all != whole || e != api.OK {
			t.Errorf("Weights(%d): %v, %v, %d, not %v", qubit, one, all, e, weight)
		}
	}
	x.Apply("x", []int{1})
	x.Apply("h", []int{2})
	want(0, null)
	want(1, whole)
	want(2, half)
	x.Apply("cx", []int{2, 0})
	want(0, half)
	if e := x.Project(2, 1); e != api.OK {
		t.Fatal(e)
	}
	want(0, whole)
	want(1, whole)
	want(2, whole)
	if e := x.Project(0, 0); e != api.ErrNull {
		t.Error(e)
	}
	want(0, whole)
}

// P18.1: a nil engine.
func TestNilEngine(t *testing.T) {
	var x *tableau.Engine
	for _, c := range calls() {
		if e := x.Apply(c.name, c.qubits); e != api.ErrArg {
			t.Errorf("Apply of %q: %d", c.name, e)
		}
	}
	for _, q := range []int{0, 1, -1, 64, math.MinInt, math.MaxInt} {
		if one, all, e := x.Weights(q); one != null || all != null || e != api.ErrArg {
			t.Errorf("Weights(%d): %v, %v, %d", q, one, all, e)
		}
		for _, bit := range append([]int{0, 1}, noBits...) {
			if e := x.Project(q, bit); e != api.ErrArg {
				t.Errorf("Project(%d, %d): %d", q, bit, e)
			}
		}
	}
	if a := x.Tableau(); !none(a) {
		t.Errorf("Tableau: %s", text(a))
	}
}
