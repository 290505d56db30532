package path_test

import (
	"maps"
	"slices"
	"testing"
	"time"

	"cubit/api"
	"cubit/dense"
	"cubit/gate"
	"cubit/path"
)

func TestFactsAreWhole(t *testing.T) {
	var names []string
	for _, f := range facts {
		names = append(names, f.name)
	}
	if !slices.Equal(names, gate.Names()) {
		t.Fatalf("the tests' gates are %v", names)
	}
}

// P15.1: every gate on every order of its qubits, from and to every basis state.
func TestEveryGate(t *testing.T) {
	for _, f := range facts {
		for n := f.qubits; n <= 4; n++ {
			for _, qubits := range tuples(n, f.qubits) {
				every(t, circuitOf(n, op(f.name, qubits...)))
			}
		}
	}
}

// every holds Amp from and to every basis state, State from every one, and Count against the paths gone one by one.
func every(t *testing.T, c api.Circuit) {
	t.Helper()
	for from := range uint64(1) << c.Qubits {
		amps, many := summed(c, from)
		for to := range uint64(1) << c.Qubits {
			leads(t, c, from, to, amps[to])
		}
		comes(t, c, from, stateOf(c.Qubits, amps))
		if n, e := path.Count(c); n < many || e != api.OK {
			t.Errorf("Count(%v): %d, %d, but %d paths begin at %d", c, n, e, many, from)
		}
	}
}

// P15.1: every two gates on every order of their qubits, from every basis state to all.
func TestEveryTwoGates(t *testing.T) {
	for _, f := range facts {
		for _, g := range facts {
			n := max(2, f.qubits, g.qubits)
			for _, first := range tuples(n, f.qubits) {
				for _, second := range tuples(n, g.qubits) {
					c := circuitOf(n, op(f.name, first...), op(g.name, second...))
					for from := range uint64(1) << n {
						amps, _ := summed(c, from)
						comes(t, c, from, stateOf(n, amps))
					}
				}
			}
		}
	}
}

// P15.1: circuits of several gates against the sum over all paths.
func TestSeveralGates(t *testing.T) {
	s := source(1)
	for range 60 {
		for n := range 5 {
			every(t, s.circuit(n, 20, 7))
		}
	}
}

// P15.1: circuits of up to 16 halvings and ten qubits, from some basis states.
func TestManyHalvings(t *testing.T) {
	s := source(2)
	most := 0
	for range 60 {
		n := 1 + s.below(10)
		c := s.circuit(n, 60, 16)
		from := s.index(n)
		amps, many := summed(c, from)
		most = max(most, many)
		for range 20 {
			to := s.index(n)
			leads(t, c, from, to, amps[to])
		}
		for _, to := range slices.Sorted(maps.Keys(amps))[:min(len(amps), 20)] {
			leads(t, c, from, to, amps[to])
		}
		comes(t, c, from, stateOf(n, amps))
	}
	if most != 65536 {
		t.Errorf("at most %d paths were gone", most)
	}
}

// P15.1: circuits on any of 64 qubits.
func TestAnywhereOfSixtyFour(t *testing.T) {
	s := source(3)
	for range 50 {
		n := []int{11, 32, 63, 64}[s.below(4)]
		c := s.circuit(n, 40, 10)
		from := s.index(n)
		amps, _ := summed(c, from)
		for _, to := range slices.Sorted(maps.Keys(amps))[:min(len(amps), 30)] {
			leads(t, c, from, to, amps[to])
			beside := to ^ 1<<s.below(n)
			leads(t, c, from, beside, amps[beside])
		}
	}
}

// P15.1: a circuit laid on other qubits leads as it did, and leaves the qubits beside it.
func TestOnOtherQubits(t *testing.T) {
	s := source(4)
	for range 60 {
		n := 1 + s.below(4)
		c := s.circuit(n, 15, 8)
		places := s.qubits(64, n)
		far := api.Circuit{Qubits: 64, Bits: c.Bits}
		for _, o := range c.Ops {
			var list []int
			for _, q := range o.Qubits {
				list = append(list, places[q])
			}
			far.Ops = append(far.Ops, op(o.Name, list...))
		}
		rest := s.index(64)
		free := s.below(64)
		for slices.Contains(places, free) {
			free = s.below(64)
		}
		for from := range 1 << n {
			for to := range 1 << n {
				x, z := put(rest, places, from), put(rest, places, to)
				leads(t, far, x, z, ampOf(t, c, uint64(from), uint64(to)))
				leads(t, far, x, z^1<<free, api.Amp{})
			}
		}
	}
}

// P2: State is what dense.Run makes of the basis state.
func TestAsDenseRuns(t *testing.T) {
	s := source(5)
	for range 200 {
		n := s.below(11)
		c := s.circuit(n, 80, 16)
		from := s.index(n)
		b, e := dense.Basis(n, from)
		if e != api.OK {
			t.Fatal(e)
		}
		want, e := dense.Run(b, c)
		if e != api.OK {
			t.Fatal(e)
		}
		comes(t, c, from, want)
		for range 5 {
			to := s.index(n)
			a, e := dense.Amp(want, to)
			if e != api.OK {
				t.Fatal(e)
			}
			leads(t, c, from, to, a)
		}
	}
}

// The greatest circuits end soon: 2^16 paths that don't meet, of 4096 operations.
func TestGreatestEnds(t *testing.T) {
	c := circuitOf(64)
	for j := range 16 {
		c.Ops = append(c.Ops, op("h", j))
	}
	for j := range 4080 {
		c.Ops = append(c.Ops, op("cx", j%16, 16+j%48))
	}
	begin := time.Now()
	a := ampOf(t, c, 0, 0)
	if took := time.Since(begin); took > time.Minute {
		t.Errorf("it took %v", took)
	}
	if !sameAmp(a, over(16, 1)) {
		t.Errorf("it came to %v", a)
	}
}
