package dense_test

import (
	"slices"
	"testing"

	"cubit/api"
	"cubit/dense"
	"cubit/gate"
	"cubit/root"
)

// P13.2: each gate, on each order of its qubits, and then its inverse gives the state again.
func TestGateAndInverse(t *testing.T) {
	s := source(31)
	held := 0
	for _, name := range gate.Names() {
		back, e := gate.Inverse(name)
		if e != api.OK {
			t.Fatal(name, e)
		}
		for n := gate.Arity(name); n <= 4; n++ {
			for _, qubits := range tuples(n, gate.Arity(name)) {
				for index := range uint64(1) << n {
					b := basis(t, n, index)
					if z := apply(t, apply(t, b, name, qubits...), back, qubits...); !same(z, b) {
						t.Fatalf("%s on %v leads %v to %v, there and back", name, qubits, b, z)
					}
				}
				for _, most := range []int{1, 4, 30, 52} {
					given := s.state(n, most, 60)
					there, e := dense.Apply(given, name, qubits)
					if e != api.OK {
						continue
					}
					z, e := dense.Apply(there, back, qubits)
					if e != api.OK {
						continue
					}
					held++
					if !same(z, given) {
						t.Fatalf("%s on %v leads %v to %v, there and back", name, qubits, given, z)
					}
				}
			}
		}
	}
	if held < 1500 {
		t.Errorf("%d tried alone", held)
	}
}

// P13.2: gates on qubits that they don't share may change places.
func TestGatesChangePlaces(t *testing.T) {
	s := source(32)
	for range 1500 {
		n := 2 + s.below(5)
		a, b := s.gate(n), s.gate(n)
		if slices.ContainsFunc(a.Qubits, func(q int) bool { return slices.Contains(b.Qubits, q) }) {
			continue
		}
		given := s.state(n, 1+s.below(45), 55)
		one := apply(t, apply(t, given, a.Name, a.Qubits...), b.Name, b.Qubits...)
		other := apply(t, apply(t, given, b.Name, b.Qubits...), a.Name, a.Qubits...)
		if !same(one, other) {
			t.Fatalf("%v and %v of %v: %v and %v", a, b, given, one, other)
		}
	}
}

// P13.2: which gates make which, bit by bit.
func TestGatesThatMakeOthers(t *testing.T) {
	s := source(33)
	for _, c := range []struct {
		list []api.Op
		want api.Op
	}{
		{[]api.Op{op("t", 1), op("t", 1)}, op("s", 1)},
		{[]api.Op{op("s", 0), op("s", 0)}, op("z", 0)},
		{[]api.Op{op("v", 0), op("v", 0)}, op("x", 0)},
		{[]api.Op{op("h", 1), op("x", 1), op("h", 1)}, op("z", 1)},
		{[]api.Op{op("sdg", 0), op("x", 0), op("s", 0)}, op("y", 0)},
		{[]api.Op{op("h", 0), op("cx", 1, 0), op("h", 0)}, op("cz", 0, 1)},
		{[]api.Op{op("cx", 0, 1), op("cx", 1, 0), op("cx", 0, 1)}, op("swap", 0, 1)},
		{[]api.Op{op("h", 2), op("ccx", 0, 1, 2), op("h", 2)}, op("ccz", 2, 1, 0)},
		{[]api.Op{op("cx", 2, 1), op("ccx", 0, 1, 2), op("cx", 2, 1)}, op("cswap", 0, 1, 2)},
		{[]api.Op{op("cs", 2, 0), op("cs", 0, 2)}, op("cz", 0, 2)},
		{slices.Repeat([]api.Op{op("w", 1)}, 8), op("i", 0)},
		{[]api.Op{op("wdg", 2), op("w", 1), op("w", 2)}, op("w", 0)}, // whatever qubit it is on
	} {
		for range 20 {
			given := s.state(3, 20, 50)
			if one, other := run(t, given, circuitOf(3, c.list...)), apply(t, given, c.want.Name, c.want.Qubits...); !same(one, other) {
				t.Fatalf("%v of %v: %v, not %v", c.list, given, one, other)
			}
		}
	}
}

// P13.2, linear: a gate makes of the sum of two states the sum of what it makes of both.
func TestLinear(t *testing.T) {
	s := source(34)
	for range 1000 {
		n := 1 + s.below(4)
		g := s.gate(n)
		a, b := s.state(n, 20, 0), s.state(n, 20, 0)
		p, q := listOf(a), listOf(b)
		for x := range p {
			p[x] = p[x].plus(q[x])
		}
		both := apply(t, formed(n, 0, p), g.Name, g.Qubits...)
		one, other := apply(t, a, g.Name, g.Qubits...), apply(t, b, g.Name, g.Qubits...)
		k := max(one.K, other.K, both.K)
		r, u, z := raised(one, k), raised(other, k), raised(both, k)
		for x := range z {
			if z[x] != r[x].plus(u[x]) {
				t.Fatalf("%v of %v and %v and of their sum: %v, %v and %v", g, a, b, one, other, both)
			}
		}
	}
}

// raised is the state's elements over the greater power k.
func raised(s api.State, k int) []powers {
	list := listOf(s)
	for range k - s.K {
		for x := range list {
			list[x] = list[x].doubled()
		}
	}
	return list
}

// P13.3: a gate leaves the weight as it is.
func TestWeightStays(t *testing.T) {
	s := source(35)
	held := 0
	for _, f := range facts {
		for n := f.qubits; n <= 4; n++ {
			for _, qubits := range tuples(n, f.qubits) {
				for _, most := range []int{1, 5, 20, 25} {
					given := s.state(n, most, 59)
					before, e := dense.Weight(given)
					there, g := dense.Apply(given, f.name, qubits)
					if e != api.OK || g != api.OK {
						continue
					}
					after, e := dense.Weight(there)
					if e != api.OK {
						continue
					}
					held++
					if before != after {
						t.Fatalf("%s on %v of %v: %v became %v", f.name, qubits, given, before, after)
					}
				}
			}
		}
	}
	if held < 1500 {
		t.Errorf("%d tried alone", held)
	}
}

// partWeight is the weight of a part; nought, if there is none.
func partWeight(t *testing.T, s api.State, qubit, bit int) api.Root {
	t.Helper()
	p, e := dense.Project(s, qubit, bit)
	if e == api.ErrNull {
		return api.Root{}
	}
	taken(t, p, e)
	w, e := dense.Weight(p)
	if e != api.OK {
		t.Fatalf("Weight(%v): %d", few(p), e)
	}
	return w
}

// P13.3: the weights of a qubit are those of its two parts, and these add up.
func TestPartsAddUp(t *testing.T) {
	s := source(36)
	for j := range 400 {
		n := 1 + j%6
		given := s.state(n, 1+s.below(20), 60)
		whole, e := dense.Weight(given)
		if e != api.OK {
			t.Fatal(e)
		}
		for q := range n {
			one, all, e := dense.Weights(given, q)
			if e != api.OK || all != whole {
				t.Fatalf("Weights(%v, %d): %v, %v, %d", given, q, one, all, e)
			}
			if w := partWeight(t, given, q, 1); w != one {
				t.Fatalf("Weights(%v, %d): %v, and the part weighs %v", given, q, one, w)
			}
			rest, e := root.Sub(all, one)
			if w := partWeight(t, given, q, 0); e != api.OK || w != rest {
				t.Fatalf("Weights(%v, %d): the rest is %v, and the part weighs %v", given, q, rest, w)
			}
		}
	}
}

// P13.3: a part's part is itself, or nothing.
func TestPartsOfParts(t *testing.T) {
	s := source(37)
	for range 300 {
		n := 1 + s.below(5)
		given, q, bit := s.state(n, 20, 60), s.below(n), s.below(2)
		p, e := dense.Project(given, q, bit)
		if e == api.ErrNull {
			continue
		}
		taken(t, p, e)
		if again := project(t, p, q, bit); !same(again, p) {
			t.Fatalf("%v, and again %v", p, again)
		}
		r, e := dense.Project(p, q, 1-bit)
		refused(t, "the other part", r, e, api.ErrNull)
	}
}

// P13.4: w turns the amplitude of a basis state, on whatever qubit.
func TestTurnOfBasisStates(t *testing.T) {
	for n := 1; n <= 5; n++ {
		for index := range uint64(1) << n {
			for q := range n {
				s := apply(t, basis(t, n, index), "w", q)
				for x := range uint64(1) << n {
					want := api.Amp{}
					if x == index {
						want.R.B = 1
					}
					if a, e := dense.Amp(s, x); a != want || e != api.OK {
						t.Fatalf("w on %d of basis state %d: amplitude %d is %v, %d", q, index, x, a, e)
					}
				}
			}
		}
	}
	s := basis(t, 10, 1023)
	for k := range 17 {
		if got, ok := dense.Phase(s, basis(t, 10, 1023)); got != k%8 || !ok {
			t.Errorf("w %d times: %d, %v", k, got, ok)
		}
		s = apply(t, s, "w", k%10)
	}
}

// P13.4: so of all states that aren't null.
func TestTurnOfStates(t *testing.T) {
	r := source(38)
	held := 0
	for j := range 600 {
		n := 1 + j%7
		s := r.state(n, 53, 60)
		turned, back := apply(t, s, "w", 0), apply(t, s, "wdg", 0)
		if !slices.ContainsFunc(listOf(s), func(p powers) bool { return !p.null() }) {
			continue
		}
		held++
		if k, ok := dense.Phase(turned, s); k != 1 || !ok {
			t.Fatalf("w of %v: %d, %v", few(s), k, ok)
		}
		if k, ok := dense.Phase(back, s); k != 7 || !ok {
			t.Fatalf("wdg of %v: %d, %v", few(s), k, ok)
		}
		if k, ok := dense.Phase(s, s); k != 0 || !ok {
			t.Fatalf("%v and itself: %d, %v", few(s), k, ok)
		}
	}
	if held < 400 {
		t.Errorf("%d tried alone", held)
	}
}
