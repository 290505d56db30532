package sparse_test

import (
	"testing"

	"cubit/api"
	"cubit/dense"
	"cubit/gate"
	"cubit/root"
	"cubit/sparse"
)

// told is the state that Terms, Power and Qubits tell; rising, and without a nought, as they must be.
func told(t *testing.T, m *sparse.Map) api.State {
	t.Helper()
	s := api.State{N: m.Qubits(), K: m.Power(), Amps: make([]api.Ring, 1<<m.Qubits())}
	for j, u := range m.Terms() {
		if u.R == (api.Ring{}) {
			t.Fatalf("term %d is nought, at %d", j, u.Index)
		}
		if j > 0 && m.Terms()[j-1].Index >= u.Index {
			t.Fatalf("term %d, at %d, is not behind the one ahead of it", j, u.Index)
		}
		s.Amps[u.Index] = u.R
	}
	return s
}

// P14.2: behind every call the terms are as many as the elements that aren't nought, and tell the state.
func TestTermsTellTheState(t *testing.T) {
	s := source(21)
	for j := range 300 {
		n := j % 6
		w := twinOf(t, s.anyState(n))
		for range 12 {
			if z := told(t, w.m); !same(z, w.s) || len(w.m.Terms()) != len(termsOf(w.s)) {
				t.Fatalf("the terms tell %v, and the state is %v", few(z), few(w.s))
			}
			w.step(t, &s)
		}
	}
}

// P14.2: terms that come to nought are gone, wherever they were.
func TestTermsThatComeToNought(t *testing.T) {
	for n := 1; n <= 10; n++ {
		m := made(t, n)
		for q := range n {
			apply(t, m, "h", q)
			if len(m.Terms()) != 2<<q || m.Power() != q+1 {
				t.Fatalf("%d terms over the power %d, behind h on %d qubits", len(m.Terms()), m.Power(), q+1)
			}
		}
		for q := range n {
			apply(t, m, "h", q)
			if len(m.Terms()) != 1<<(n-1-q) || m.Power() != n-1-q {
				t.Fatalf("%d terms over the power %d, behind h once more on %d qubits", len(m.Terms()), m.Power(), q+1)
			}
		}
		tells(t, m, 0, at(0, 1))
	}
	for _, c := range []struct {
		name   string
		qubits []int
		old    api.State
		want   []api.Term
		power  int
	}{
		{"h", []int{0}, numbers(1, 1, -1), []api.Term{at(1, 1)}, 0},
		{"h", []int{1}, numbers(0, 1, 1, 1, -1), []api.Term{{Index: 0, R: element(0, 1-1i)}, {Index: 3, R: element(0, 1-1i)}}, 0},
		{"v", []int{0}, numbers(1, 1, 1i), []api.Term{{Index: 0, R: element(0, 1)}}, 0},
		{"vdg", []int{0}, numbers(1, 1, 1i), []api.Term{{Index: 1, R: element(0, 1)}}, 0},
		{"ch", []int{0, 1}, numbers(1, 0, 1, 0, 1), []api.Term{at(1, 1)}, 0},
	} {
		m := from(t, c.old)
		apply(t, m, c.name, c.qubits...)
		tells(t, m, c.power, c.want...)
	}
}

// P14.3: a map made of what State answers answers the same to all calls.
func TestFromOfState(t *testing.T) {
	s := source(22)
	for j := range 400 {
		n := j % 6
		w := twinOf(t, s.anyState(n))
		for range s.below(6) {
			w.step(t, &s)
		}
		other := &twin{from(t, stateOf(t, w.m)), w.s}
		for range 10 {
			a, b := s, s // the same calls on both
			if e, f := w.step(t, &a), other.step(t, &b); e != f || !same(w.s, other.s) {
				t.Fatalf("%d and %d: %v and %v", e, f, few(w.s), few(other.s))
			}
			s = a
			if !sameTerms(w.m.Terms(), other.m.Terms()) || w.m.Power() != other.m.Power() || w.m.Qubits() != other.m.Qubits() {
				t.Fatalf("%v and %v", w.m.Terms(), other.m.Terms())
			}
		}
	}
}

// P14.3: From and then State is the state.
func TestStateOfFrom(t *testing.T) {
	s := source(23)
	for n := range 11 {
		for noughts := range 5 {
			for _, most := range []int{1, 20, 53} {
				given := s.state(n, most, 60, noughts)
				if z := stateOf(t, from(t, given)); !same(z, given) {
					t.Fatalf("%v became %v", few(given), few(z))
				}
			}
		}
		given := s.edgeState(n)
		if z := stateOf(t, from(t, given)); !same(z, given) || dense.Check(z) != api.OK {
			t.Fatalf("%v became %v", few(given), few(z))
		}
	}
}

// P14.4: a gate and then its inverse, on each order of its qubits, leave Terms and Power as they were.
func TestGateAndInverse(t *testing.T) {
	s := source(24)
	held := 0
	for _, name := range gate.Names() {
		back, e := gate.Inverse(name)
		if e != api.OK {
			t.Fatal(name, e)
		}
		for n := gate.Arity(name); n <= 4; n++ {
			for _, qubits := range tuples(n, gate.Arity(name)) {
				for noughts := range 4 {
					m := from(t, s.state(n, []int{1, 4, 30, 52}[noughts], 60, noughts))
					terms, power := m.Terms(), m.Power()
					if m.Apply(name, qubits) != api.OK || m.Apply(back, qubits) != api.OK {
						continue
					}
					held++
					if !sameTerms(m.Terms(), terms) || m.Power() != power {
						t.Fatalf("%s on %v leads %v over %d to %v over %d, there and back", name, qubits, terms, power, m.Terms(), m.Power())
					}
				}
				for index := range uint64(1) << n {
					b, _ := dense.Basis(n, index)
					m := from(t, b)
					apply(t, m, name, qubits...)
					apply(t, m, back, qubits...)
					tells(t, m, 0, at(index, 1))
				}
			}
		}
	}
	if held < 1000 {
		t.Errorf("%d tried alone", held)
	}
}

// P14.4: so a long list of gates and then the inverses, the last one first.
func TestListAndInverses(t *testing.T) {
	type step struct {
		name   string
		qubits []int
	}
	s := source(25)
	for _, n := range []int{1, 3, 6, 10} {
		for range 5 {
			var list []step
			for halvings := 0; len(list) < 60; {
				name, qubits := s.gate(n)
				if halvings += gate.Halves(name); halvings > 18 {
					halvings = 18
					continue
				}
				list = append(list, step{name, qubits})
			}
			index := uint64(s.below(1 << n))
			b, _ := dense.Basis(n, index)
			m := from(t, b)
			for _, p := range list {
				apply(t, m, p.name, p.qubits...)
			}
			for j := range list {
				p := list[len(list)-1-j]
				back, _ := gate.Inverse(p.name)
				apply(t, m, back, p.qubits...)
			}
			tells(t, m, 0, at(index, 1))
		}
	}
}

// The document's P4: a gate leaves the weight as it is, and the weights of the two parts add up to it.
func TestNothingIsLost(t *testing.T) {
	s := source(26)
	for j := range 300 {
		n := 1 + j%5
		m := from(t, s.state(n, 1+s.below(18), 50, s.below(4)))
		_, before, e := m.Weights(0)
		name, qubits := s.gate(n)
		apply(t, m, name, qubits...)
		q := s.below(n)
		one, all, f := m.Weights(q)
		if e != api.OK || f != api.OK || all != before {
			t.Fatalf("%s on %v: %v became %v, %d, %d", name, qubits, before, all, e, f)
		}
		rest, e := root.Sub(all, one)
		for bit, want := range []api.Root{rest, one} {
			part := from(t, stateOf(t, m))
			if part.Project(q, bit) == api.ErrNull {
				if want != (api.Root{}) {
					t.Fatalf("no part weighs %v", want)
				}
				continue
			}
			if _, weight, f := part.Weights(q); weight != want || e != api.OK || f != api.OK {
				t.Fatalf("the part with bit %d weighs %v, not %v", bit, weight, want)
			}
		}
	}
}
