package path_test

import (
	"slices"
	"testing"

	"cubit/amp"
	"cubit/api"
	"cubit/circuit"
	"cubit/dense"
	"cubit/path"
	"cubit/root"
)

// then is both circuits, one behind the other.
func then(t *testing.T, a, b api.Circuit) api.Circuit {
	t.Helper()
	c, e := circuit.Then(a, b)
	if e != api.OK {
		t.Fatalf("Then(%v, %v): %d", a, b, e)
	}
	return c
}

func inverse(t *testing.T, c api.Circuit) api.Circuit {
	t.Helper()
	back, e := circuit.Inverse(c)
	if e != api.OK {
		t.Fatalf("Inverse(%v): %d", c, e)
	}
	return back
}

// plus adds the product of two amplitudes.
func plus(t *testing.T, sum, a, b api.Amp) api.Amp {
	t.Helper()
	product, e := amp.Mul(a, b)
	if e != api.OK {
		t.Fatalf("%v times %v: %d", a, b, e)
	}
	sum, e = amp.Add(sum, product)
	if e != api.OK {
		t.Fatalf("added %v: %d", product, e)
	}
	return sum
}

func conj(t *testing.T, a api.Amp) api.Amp {
	t.Helper()
	z, e := amp.Conj(a)
	if e != api.OK {
		t.Fatalf("Conj(%v): %d", a, e)
	}
	return z
}

// amps are what Amp tells from and to every basis state: first the one, then the other.
func amps(t *testing.T, c api.Circuit) [][]api.Amp {
	t.Helper()
	var all [][]api.Amp
	for from := range uint64(1) << c.Qubits {
		var list []api.Amp
		for to := range uint64(1) << c.Qubits {
			list = append(list, ampOf(t, c, from, to))
		}
		all = append(all, list)
	}
	return all
}

// P15.2: one circuit behind the other, by way of all states between.
func TestOneBehindTheOther(t *testing.T) {
	s := source(11)
	for range 20 {
		for n := range 5 {
			a, b := s.circuit(n, 12, 6), s.circuit(n, 12, 6)
			b.Bits = a.Bits
			first, second, both := amps(t, a), amps(t, b), amps(t, then(t, a, b))
			for x := range both {
				for z := range both {
					var sum api.Amp
					for y := range both {
						sum = plus(t, sum, first[x][y], second[y][z])
					}
					if !sameAmp(both[x][z], sum) {
						t.Errorf("%v behind %v, from %d to %d: %v, not %v", b, a, x, z, both[x][z], sum)
					}
				}
			}
		}
	}
}

// P15.2: 8 halvings behind 8 on ten qubits.
func TestOneBehindTheOtherOfTen(t *testing.T) {
	s := source(12)
	for range 3 {
		a, b := s.circuit(10, 40, 8), s.circuit(10, 40, 8)
		b.Bits = a.Bits
		both := then(t, a, b)
		x, z := s.index(10), s.index(10)
		var sum api.Amp
		for y := range uint64(1) << 10 {
			sum = plus(t, sum, ampOf(t, a, x, y), ampOf(t, b, y, z))
		}
		leads(t, both, x, z, sum)
	}
}

// P15.3: the inverse leads back by the conjugate.
func TestThereAndBack(t *testing.T) {
	s := source(13)
	for range 20 {
		for n := range 5 {
			c := s.circuit(n, 20, 10)
			back := inverse(t, c)
			for x, list := range amps(t, c) {
				for y, a := range list {
					leads(t, back, uint64(y), uint64(x), conj(t, a))
				}
			}
		}
	}
	for range 30 {
		c := s.circuit(64, 40, 8)
		back := inverse(t, c)
		x := s.index(64)
		ends, _ := summed(c, x)
		for y, a := range ends {
			leads(t, back, y, x, conj(t, a))
		}
	}
}

// P15.3 and P15.2: a circuit and its inverse behind it lead each basis state to itself (the document's P3).
func TestThereAndBackIsNothing(t *testing.T) {
	s := source(14)
	for range 60 {
		n := 1 + s.below(10)
		c := s.circuit(n, 30, 8)
		x := s.index(n)
		b, e := dense.Basis(n, x)
		if e != api.OK {
			t.Fatal(e)
		}
		comes(t, then(t, c, inverse(t, c)), x, b)
	}
}

// weighs asks that the weights over all ends add up to 1.
func weighs(t *testing.T, c api.Circuit, x uint64) {
	t.Helper()
	var sum api.Root
	for y := range uint64(1) << c.Qubits {
		w, e := amp.Weight(ampOf(t, c, x, y))
		if e != api.OK {
			t.Fatal(e)
		}
		if sum, e = root.Add(sum, w); e != api.OK {
			t.Fatal(e)
		}
	}
	if sum != (api.Root{P: 1}) {
		t.Errorf("%v from %d: the weights add up to %v", c, x, sum)
	}
}

// P15.4: the weights over all ends add up to 1.
func TestNothingIsLost(t *testing.T) {
	s := source(15)
	for range 20 {
		for n := range 5 {
			c := s.circuit(n, 30, 16)
			for x := range uint64(1) << n {
				weighs(t, c, x)
			}
		}
	}
	for range 3 {
		weighs(t, s.circuit(10, 40, 16), s.index(10))
	}
}

// P15.4: State's weight is 1, of ten qubits too.
func TestStatesWeighOne(t *testing.T) {
	s := source(16)
	for range 100 {
		n := s.below(11)
		z, e := path.State(s.circuit(n, 60, 16), s.index(n))
		if e != api.OK {
			t.Fatal(e)
		}
		if w, e := dense.Weight(z); w != (api.Root{P: 1}) || e != api.OK {
			t.Errorf("%v: its weight is %v, %d", few(z), w, e)
		}
	}
}

// orders are some for the circuit: by layers, each in any order, and with two that stand beside one another exchanged.
func (s *source) orders(t *testing.T, c api.Circuit) [][]int {
	t.Helper()
	layers, e := circuit.Layers(c)
	if e != api.OK {
		t.Fatal(e)
	}
	var some [][]int
	for range 3 {
		var list []int
		for _, layer := range layers {
			list = append(list, s.shuffled(layer)...)
		}
		some = append(some, list)
	}
	for j := 1; j < len(c.Ops); j++ {
		var list []int
		for k := range c.Ops {
			list = append(list, k)
		}
		list[j-1], list[j] = j, j-1
		some = append(some, list)
	}
	return some
}

// P15.5: circuits in another order.
func TestInAnotherOrder(t *testing.T) {
	s := source(17)
	taken := 0
	for range 40 {
		n := 2 + s.below(4)
		c := s.circuit(n, 16, 8)
		x := s.index(n)
		for _, order := range s.orders(t, c) {
			other, e := circuit.Order(c, order)
			if e != api.OK {
				continue
			}
			if !slices.IsSorted(order) {
				taken++
			}
			for y := range uint64(1) << n {
				leads(t, other, x, y, ampOf(t, c, x, y))
			}
		}
	}
	if taken < 100 {
		t.Errorf("%d other orders alone were taken", taken)
	}
}

// P15.1: State's amplitudes are each what Amp tells, and it is in its one form.
func TestStateIsAmps(t *testing.T) {
	s := source(18)
	for round := range 44 {
		n := round % 11
		c := s.circuit(n, 25, 12)
		x := s.index(n)
		z, e := path.State(c, x)
		if e != api.OK {
			t.Fatal(e)
		}
		if e := dense.Check(z); e != api.OK || z.N != n {
			t.Errorf("%v: State is %v, which dense.Check refuses with %d", c, few(z), e)
		}
		for y, r := range z.Amps {
			a, e := amp.Make(r, z.K)
			if e != api.OK {
				t.Fatal(e)
			}
			leads(t, c, x, uint64(y), a)
		}
	}
}
