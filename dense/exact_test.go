package dense_test

import (
	"testing"

	"cubit/api"
	"cubit/dense"
)

// hold holds an answer against what it should be.
func hold(t *testing.T, name string, of api.State, z api.State, e api.Errno, want told) {
	t.Helper()
	if !same(z, want.s) || e != want.e {
		t.Fatalf("%s of %v: %v, %d, not %v, %d", name, few(of), few(z), e, few(want.s), want.e)
	}
	if f := dense.Check(z); e == api.OK && f != api.OK {
		t.Fatalf("%s of %v: %v, which Check refuses with %d", name, few(of), few(z), f)
	}
}

// holdApply tells the error too.
func holdApply(t *testing.T, s api.State, name string, qubits []int) api.Errno {
	t.Helper()
	z, e := dense.Apply(s, name, qubits)
	hold(t, name, s, z, e, applied(s, name, qubits))
	return e
}

// holdParts asks for all that is told of a state.
func holdParts(t *testing.T, s api.State) {
	t.Helper()
	weight, e := dense.Weight(s)
	if want, f := weighed(s, all); weight != want || e != f {
		t.Fatalf("Weight of %v: %v, %d, not %v, %d", few(s), weight, e, want, f)
	}
	for q := range s.N {
		one, whole, f := dense.Weights(s, q)
		want, _ := weighed(s, bitIs(q, 1))
		if e != api.OK {
			want = api.Root{}
		}
		if one != want || whole != weight || f != e {
			t.Fatalf("Weights of %v at %d: %v, %v, %d, not %v, %v, %d", few(s), q, one, whole, f, want, weight, e)
		}
		for bit := range 2 {
			z, e := dense.Project(s, q, bit)
			hold(t, "Project", s, z, e, projected(s, q, bit))
		}
	}
	for x, p := range listOf(s) {
		want := formed(0, s.K, []powers{p})
		if a, e := dense.Amp(s, uint64(x)); !sameElement(a.R, want.Amps[0]) || a.K != want.K || e != api.OK {
			t.Fatalf("Amp %d of %v: %v, %d, not %v", x, few(s), a, e, want)
		}
	}
}

// P13.1: every gate on every order of its qubits, on each basis state and on others.
func TestEachGateOnEachOrder(t *testing.T) {
	s := source(1)
	for _, f := range facts {
		for n := f.qubits; n <= 4; n++ {
			for _, qubits := range tuples(n, f.qubits) {
				for index := range uint64(1) << n {
					holdApply(t, basis(t, n, index), f.name, qubits)
				}
				for _, most := range []int{1, 3, 20, 51} {
					holdApply(t, s.state(n, most, 3), f.name, qubits)
					holdApply(t, s.state(n, most, 59), f.name, qubits)
				}
			}
		}
	}
}

// P13.1: so on states of MaxQubits.
func TestEachGateOnTenQubits(t *testing.T) {
	s := source(2)
	for _, f := range facts {
		for _, qubits := range [][]int{{9, 0, 4}, {0, 9, 8}, {5, 3, 9}, s.qubits(10, 3)} {
			for _, most := range []int{2, 40} {
				if e := holdApply(t, s.state(10, most, 5), f.name, qubits[:f.qubits]); e != api.OK {
					t.Errorf("%s: %d", f.name, e)
				}
			}
		}
	}
}

// edges are elements with parts that are at the bound, or whose doubles and sums are at it or one past it.
func edges() []powers {
	var list []powers
	parts := []int64{0, 1, -1, 1<<52 - 1, 1 << 52, -(1 << 52), top - 1, top, -top}
	for _, a := range parts {
		for _, b := range parts {
			list = append(list, powers{a, b, 0, 0}, powers{a, 0, b, 0}, powers{0, a, 1, b}, powers{b, a, a, b})
		}
	}
	return list
}

// P13.1: sums and doubles at the bound and beyond it.
func TestAgainstPowersAtEdges(t *testing.T) {
	s, list := source(3), edges()
	var ok, big int
	for range 6000 {
		elements := make([]powers, 1<<(1+s.below(3)))
		for x := range elements {
			if s.below(3) > 0 {
				elements[x] = list[s.below(len(list))]
			}
		}
		n := map[int]int{2: 1, 4: 2, 8: 3}[len(elements)]
		for _, k := range []int{0, 1, 59, 60} {
			given := formed(n, k, elements)
			op := s.gate(n)
			switch holdApply(t, given, op.Name, op.Qubits) {
			case api.OK:
				ok++
			case api.ErrBig:
				big++
			default:
				t.Fatalf("%v of %v", op, given)
			}
			holdParts(t, given)
		}
	}
	if ok < 2000 || big < 2000 {
		t.Errorf("%d taken, %d refused alone", ok, big)
	}
}

// P13.1: all that is told of states, great and small.
func TestAgainstPowersAtRandom(t *testing.T) {
	s := source(4)
	for range 60 {
		for n := range 6 {
			for _, most := range []int{1, 2, 8, 22, 25, 53} {
				given := s.state(n, most, 60)
				if e := dense.Check(given); e != api.OK {
					t.Fatalf("Check(%v): %d", few(given), e)
				}
				holdParts(t, given)
				if n > 0 {
					op := s.gate(n)
					holdApply(t, given, op.Name, op.Qubits)
				}
			}
		}
	}
	for range 3 {
		holdParts(t, s.state(10, 20, 60))
	}
}

// notInForm tells whether Check has to refuse the state for its form.
func notInForm(s api.State) bool {
	return !same(s, formed(s.N, s.K, listOf(s)))
}

// P13.1: Check of states in their one form and of others: each element doubled some times, over each K.
func TestCheckAgainstPowers(t *testing.T) {
	s := source(5)
	var in, out int
	for range 400 {
		for n := range 4 {
			list := make([]powers, 1<<n)
			for x := range list {
				list[x] = s.powers(1)
				for range s.below(3) {
					list[x] = list[x].doubled()
				}
			}
			for k := range 4 {
				given := api.State{N: n, K: k}
				for _, p := range list {
					given.Amps = append(given.Amps, p.element())
				}
				want := api.OK
				if notInForm(given) {
					want = api.ErrState
					out++
				} else {
					in++
				}
				if e := dense.Check(given); e != want {
					t.Fatalf("Check(%v): %d", given, e)
				}
			}
		}
	}
	if in < 1000 || out < 1000 {
		t.Errorf("%d in form, %d not", in, out)
	}
}

// P13.1: Phase, of states that are turned, and of states that are nearly so.
func TestPhaseAgainstPowers(t *testing.T) {
	s := source(6)
	var yes, no int
	for range 300 {
		for n := range 4 {
			b := s.state(n, 1+s.below(3), s.below(3))
			list := listOf(b)
			k := s.below(8)
			for x := range list {
				list[x] = list[x].turned(k)
			}
			for _, spoilt := range []bool{false, true} {
				if spoilt {
					x := s.below(len(list))
					list[x] = list[x].turned(s.below(8))
				}
				a := formed(n, b.K, list)
				want, wanted := phased(a, b)
				if got, ok := dense.Phase(a, b); got != want || ok != wanted {
					t.Fatalf("Phase(%v, %v): %d, %v, not %d, %v", a, b, got, ok, want, wanted)
				}
				if wanted {
					yes++
				} else {
					no++
				}
			}
		}
	}
	if yes < 500 || no < 300 {
		t.Errorf("%d turned, %d not", yes, no)
	}
}

// P13.1: Run is Apply of each operation.
func TestRunAgainstPowers(t *testing.T) {
	s := source(7)
	var ok, big int
	for j := range 400 {
		for n := range 5 {
			given := s.state(n, []int{1, 5, 40, 50, 53}[j%5], 40)
			if j%3 == 0 {
				given = formed(n, 57+j%4, listOf(given))
			}
			c := s.circuit(n, j%30, 36)
			z, e := dense.Run(given, c)
			hold(t, "Run", given, z, e, ranThrough(given, c))
			if e == api.OK {
				ok++
			} else {
				big++
			}
		}
	}
	if ok < 500 || big < 200 {
		t.Errorf("%d taken, %d refused alone", ok, big)
	}
}

// Circuits with MaxHalf halvings on basis states are never refused by size.
func TestNoEngineRefuses(t *testing.T) {
	s := source(8)
	for _, n := range []int{1, 2, 5, 10} {
		for range 6 {
			c := s.circuit(n, 200, 36)
			given := basis(t, n, uint64(s.below(1<<n)))
			z := run(t, given, c)
			hold(t, "Run", given, z, api.OK, ranThrough(given, c))
			if w, e := dense.Weight(z); w != (api.Root{P: 1}) || e != api.OK {
				t.Errorf("the weight became %v, %d", w, e)
			}
		}
	}
}
