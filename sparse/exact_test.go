package sparse_test

import (
	"testing"

	"cubit/api"
	"cubit/dense"
	"cubit/gate"
	"cubit/sparse"
)

// A twin is a map, and the state that it has to be by what dense tells. Each call is made of both, and the answers are held against each other.
type twin struct {
	m *sparse.Map
	s api.State
}

func twinOf(t *testing.T, s api.State) *twin {
	t.Helper()
	return &twin{from(t, s), s}
}

func (w *twin) apply(t *testing.T, name string, qubits []int) api.Errno {
	t.Helper()
	z, want := dense.Apply(w.s, name, qubits)
	if e := w.m.Apply(name, qubits); e != want {
		t.Fatalf("%q on %v of %v: %d, not %d", name, qubits, few(w.s), e, want)
	}
	if want == api.OK {
		w.s = z
	}
	is(t, w.m, w.s)
	return want
}

func (w *twin) weights(t *testing.T, qubit int) api.Errno {
	t.Helper()
	p, q, want := dense.Weights(w.s, qubit)
	if one, all, e := w.m.Weights(qubit); one != p || all != q || e != want {
		t.Fatalf("Weights of %v at %d: %v, %v, %d, not %v, %v, %d", few(w.s), qubit, one, all, e, p, q, want)
	}
	is(t, w.m, w.s)
	return want
}

func (w *twin) project(t *testing.T, qubit, bit int) api.Errno {
	t.Helper()
	z, want := dense.Project(w.s, qubit, bit)
	if e := w.m.Project(qubit, bit); e != want {
		t.Fatalf("Project of %v at %d onto %d: %d, not %d", few(w.s), qubit, bit, e, want)
	}
	if want == api.OK {
		w.s = z
	}
	is(t, w.m, w.s)
	return want
}

// parts asks for the weights and both parts of each qubit, each part of a map of its own.
func (w *twin) parts(t *testing.T) {
	t.Helper()
	for q := range w.s.N {
		w.weights(t, q)
		for bit := range 2 {
			twinOf(t, w.s).project(t, q, bit)
		}
	}
}

// step is any call, right or wrong; it tells the error.
func (w *twin) step(t *testing.T, s *source) api.Errno {
	t.Helper()
	n := w.s.N
	switch s.below(6) {
	case 0:
		return w.project(t, s.place(n), s.bit())
	case 1:
		return w.weights(t, s.place(n))
	}
	name, qubits := s.anyGate(n)
	return w.apply(t, name, qubits)
}

// P14.1: every gate on every order of its qubits, on each basis state and on others.
func TestEachGateOnEachOrder(t *testing.T) {
	s := source(1)
	for _, name := range gate.Names() {
		for n := gate.Arity(name); n <= 4; n++ {
			for _, qubits := range tuples(n, gate.Arity(name)) {
				for index := range uint64(1) << n {
					b, _ := dense.Basis(n, index)
					if e := twinOf(t, b).apply(t, name, qubits); e != api.OK {
						t.Fatalf("%s on %v: %d", name, qubits, e)
					}
				}
				for noughts := range 4 {
					twinOf(t, s.state(n, 2, 3, noughts)).apply(t, name, qubits)
					twinOf(t, s.state(n, 51, 59, noughts)).apply(t, name, qubits)
				}
			}
		}
	}
}

// P14.1: so on maps of MaxQubits, of few terms and of many.
func TestEachGateOnTenQubits(t *testing.T) {
	s := source(2)
	for _, name := range gate.Names() {
		for _, qubits := range [][]int{{9, 0, 4}, {0, 9, 8}, s.qubits(10, 3)} {
			for _, noughts := range []int{0, 3} {
				if e := twinOf(t, s.state(10, 40, 5, noughts)).apply(t, name, qubits[:gate.Arity(name)]); e != api.OK {
					t.Errorf("%s: %d", name, e)
				}
			}
		}
	}
}

// P14.1: lists of calls on one map. Each list has calls that are refused in it, and goes on behind them.
func TestListsOfCalls(t *testing.T) {
	s := source(3)
	errors := map[api.Errno]int{}
	for j := range 1200 {
		n := j % 6
		w := &twin{m: made(t, n)}
		w.s, _ = dense.Zero(n)
		if j%3 > 0 {
			w = twinOf(t, s.anyState(n))
		}
		for range 20 {
			errors[w.step(t, &s)]++
		}
	}
	for _, e := range []api.Errno{api.OK, api.ErrArg, api.ErrBig, api.ErrGate, api.ErrArity, api.ErrSame, api.ErrNull} {
		if errors[e] < 50 {
			t.Errorf("error %d came %d times alone", e, errors[e])
		}
	}
}

// P14.1: calls on several maps in turn: none of them touches another one.
func TestSeveralMapsInTurn(t *testing.T) {
	s := source(4)
	for range 60 {
		var list []*twin
		for range 5 {
			list = append(list, twinOf(t, s.anyState(s.below(5))))
		}
		for range 40 {
			j, k := s.below(len(list)), s.below(len(list))
			switch s.below(8) {
			case 0: // another one of what this one is
				list[k] = twinOf(t, stateOf(t, list[j].m))
			case 1:
				n := s.below(5)
				list[k] = &twin{m: made(t, n)}
				list[k].s, _ = dense.Zero(n)
			default:
				list[j].step(t, &s)
			}
			for _, w := range list {
				is(t, w.m, w.s)
			}
		}
	}
}

// P14.1: sums and doubles at the bound and beyond it, K at MaxPower and beyond it.
func TestAtEdges(t *testing.T) {
	s := source(5)
	var ok, big int
	for range 6000 {
		n := 1 + s.below(3)
		w := twinOf(t, s.edgeState(n))
		w.parts(t)
		name, qubits := s.gate(n)
		if s.below(2) == 0 && n > 1 {
			name, qubits = "ch", s.qubits(n, 2)
		}
		switch e := w.apply(t, name, qubits); e {
		case api.OK:
			ok++
		case api.ErrBig:
			big++
		default:
			t.Fatalf("%s on %v: %d", name, qubits, e)
		}
		w.parts(t)
	}
	if ok < 1500 || big < 1500 {
		t.Errorf("%d taken, %d refused alone", ok, big)
	}
}

// P14.1: all that is told of maps, great and small.
func TestAtRandom(t *testing.T) {
	s := source(6)
	for range 300 {
		for n := range 6 {
			w := twinOf(t, s.anyState(n))
			w.parts(t)
			if n > 0 {
				name, qubits := s.gate(n)
				w.apply(t, name, qubits)
			}
		}
	}
	for noughts := range 4 {
		twinOf(t, s.state(10, 20, 60, noughts)).parts(t)
	}
}

// P14.1: long lists of gates with MaxHalf halvings, from New on: nothing is refused, and the weight stays 1.
func TestNoEngineRefuses(t *testing.T) {
	s := source(7)
	for _, n := range []int{1, 2, 5, 10} {
		for range 3 {
			w := &twin{m: made(t, n)}
			w.s, _ = dense.Zero(n)
			halvings := 0
			for range 100 {
				name, qubits := s.gate(n)
				if halvings += gate.Halves(name); halvings > api.MaxHalf {
					halvings = api.MaxHalf
					continue
				}
				if e := w.apply(t, name, qubits); e != api.OK {
					t.Fatalf("%s on %v: %d", name, qubits, e)
				}
			}
			if _, all, e := w.m.Weights(n - 1); all != (api.Root{P: 1}) || e != api.OK {
				t.Errorf("the weight became %v, %d", all, e)
			}
			for q := range n { // and measured, one qubit behind the other
				bit := s.below(2)
				if w.weights(t, q); w.project(t, q, bit) == api.ErrNull {
					w.project(t, q, 1-bit)
				}
			}
			if len(w.m.Terms()) != 1 {
				t.Errorf("%d terms are left", len(w.m.Terms()))
			}
		}
	}
}
