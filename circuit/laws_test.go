package circuit_test

import (
	"slices"
	"testing"

	"cubit/api"
	"cubit/circuit"
)

// small is a circuit with few halvings, of three qubits and two bits: two of them can be put one behind the other.
func (s *source) small(ops int, gates bool) api.Circuit {
	c := of()
	for range ops {
		op := s.op(3, 2, gates)
		if factOf(op.Name).halve == 1 && s.next(2) == 0 {
			op = whole(op)
		}
		c.Ops = append(c.Ops, op)
	}
	return c
}

// P11.2: there and back again; the halvings are the same.
func TestBackAndForth(t *testing.T) {
	s := source(11)
	for j := range 1000 {
		c := s.circuit(j%60, true)
		back := inverse(t, c)
		if again := inverse(t, back); !same(again, c) {
			t.Fatalf("%v, and back again %v", c, again)
		}
		if halves(t, back) != halves(t, c) {
			t.Fatalf("%v: %d and %d halvings", c, halves(t, c), halves(t, back))
		}
	}
}

// P11.2: what is done last is taken back first; the halvings of Then are the sum.
func TestThenAndBack(t *testing.T) {
	s := source(12)
	held := 0
	for j := range 1000 {
		a, b := s.small(j%20, true), s.small(j%23, true)
		both, e := circuit.Then(a, b)
		if e == api.ErrRoots {
			if halves(t, a)+halves(t, b) <= 36 {
				t.Fatalf("Then(%v, %v): %d", a, b, e)
			}
			continue
		}
		held++
		back := then(t, inverse(t, b), inverse(t, a))
		if turned := inverse(t, both); e != api.OK || !same(turned, back) {
			t.Fatalf("Inverse(Then(%v, %v)): %v", a, b, turned)
		}
		if halves(t, both) != halves(t, a)+halves(t, b) || halves(t, back) != halves(t, both) {
			t.Fatalf("%v, %v: %d halvings", a, b, halves(t, both))
		}
	}
	if held < 500 {
		t.Errorf("%d tried alone", held)
	}
}

// P11.2: the halvings of Then are the sum for what has no way back too, and Then doesn't hang on brackets.
func TestSums(t *testing.T) {
	s := source(13)
	for j := range 1000 {
		a, b, c := s.small(j%11, false), s.small(j%7, false), s.small(j%13, false)
		both := then(t, a, b)
		if halves(t, both) != halves(t, a)+halves(t, b) {
			t.Fatalf("%v, %v: %d halvings", a, b, halves(t, both))
		}
		if left, right := then(t, both, c), then(t, a, then(t, b, c)); !same(left, right) {
			t.Fatalf("%v and %v", left, right)
		}
	}
}

// P11.3: the layers hold each operation once, none of one layer are bound, each above 0 is bound to one of the layer below.
func TestWhatLayersHold(t *testing.T) {
	s := source(14)
	for j := range 2000 {
		c := s.circuit(j%50, j%3 == 0)
		list := layers(t, c)
		if all := slices.Sorted(slices.Values(slices.Concat(list...))); len(all) != len(c.Ops) || len(slices.Compact(all)) != len(c.Ops) || len(all) > 0 && (all[0] != 0 || all[len(all)-1] != len(c.Ops)-1) {
			t.Fatalf("Layers(%v): %v", c, list)
		}
		for step, layer := range list {
			if len(layer) == 0 || !slices.IsSorted(layer) {
				t.Fatalf("Layers(%v): %v", c, list)
			}
			for k, n := range layer {
				if slices.ContainsFunc(layer[:k], func(m int) bool { return bound(c.Ops[m], c.Ops[n]) }) {
					t.Fatalf("Layers(%v): %v has two bound ones in one layer", c, list)
				}
				if step > 0 && !slices.ContainsFunc(list[step-1], func(m int) bool { return m < n && bound(c.Ops[m], c.Ops[n]) }) {
					t.Fatalf("Layers(%v): %v, and %d could be ahead", c, list, n)
				}
			}
		}
	}
}

// byLayers is an order of all layers one behind the other, each shuffled.
func (s *source) byLayers(list [][]int) []int {
	var all []int
	for _, layer := range list {
		for _, k := range s.shuffled(len(layer)) {
			all = append(all, layer[k])
		}
	}
	return all
}

// sameSteps asks that a circuit in another order has the same layers, but for the numbers.
func sameSteps(t *testing.T, c, other api.Circuit, list []int) {
	t.Helper()
	found := layers(t, other)
	for _, layer := range found {
		for k := range layer {
			layer[k] = list[layer[k]]
		}
		slices.Sort(layer)
	}
	if !sameLayers(found, layers(t, c)) {
		t.Fatalf("%v by %v: %v, not %v", c, list, found, layers(t, c))
	}
}

// P11.3: all layers one behind the other, each in any order, are an order that Order takes. P11.4: and the layers are the same.
func TestOrdersByLayers(t *testing.T) {
	s := source(15)
	moved := 0
	for j := range 3000 {
		c := s.circuit(j%50, j%3 == 0)
		list := s.byLayers(layers(t, c))
		d := order(t, c, list)
		for k, n := range list {
			if !sameOp(d.Ops[k], c.Ops[n]) {
				t.Fatalf("Order(%v, %v): %v", c, list, d)
			}
		}
		sameSteps(t, c, d, list)
		if !slices.IsSorted(list) {
			moved++
		}
	}
	if moved < 1500 {
		t.Errorf("%d moved alone", moved)
	}
}

// P11.4: any order that Order takes leaves the layers; and it can be undone.
func TestAnyOrder(t *testing.T) {
	s := source(16)
	moved := 0
	for j := range 6000 {
		c := s.circuit(j%25, j%3 == 0)
		list := s.lately(s.byLayers(layers(t, c)))
		d, e := circuit.Order(c, list)
		if e != api.OK {
			continue
		}
		moved++
		sameSteps(t, c, d, list)
		back := make([]int, len(list))
		for k, n := range list {
			back[n] = k
		}
		if again := order(t, d, back); !same(again, c) {
			t.Fatalf("%v by %v, and back %v", c, list, again)
		}
		if halves(t, d) != halves(t, c) {
			t.Fatalf("%v by %v: %d halvings", c, list, halves(t, d))
		}
	}
	if moved < 1000 {
		t.Errorf("%d moved alone", moved)
	}
}

// The order in which a circuit's operations stand is always one.
func TestOwnOrder(t *testing.T) {
	s := source(17)
	for j := range 1000 {
		c := s.circuit(j%50, j%3 == 0)
		list := make([]int, len(c.Ops))
		for k := range list {
			list[k] = k
		}
		if d := order(t, c, list); !same(d, c) {
			t.Fatalf("Order(%v): %v", c, d)
		}
	}
}
