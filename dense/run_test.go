package dense_test

import (
	"math"
	"slices"
	"testing"
	"time"

	"cubit/api"
	"cubit/circuit"
	"cubit/dense"
)

func measure(qubit, bit int) api.Op {
	return api.Op{Kind: api.OpMeasure, Qubits: []int{qubit}, Bit: bit}
}

func reset(qubit int) api.Op { return api.Op{Kind: api.OpReset, Qubits: []int{qubit}} }

// when is the operation under a condition.
func when(op api.Op, mask, value uint64) api.Op {
	op.If, op.Mask, op.Value = true, mask, value
	return op
}

// P13.1: circuits by hand.
func TestRunByHand(t *testing.T) {
	for _, c := range []struct {
		s    api.State
		ops  []api.Op
		want api.State
	}{
		{zero(t, 1), []api.Op{op("h", 0), op("z", 0), op("h", 0)}, numbers(0, 0, 1)},
		{zero(t, 2), []api.Op{op("h", 0), op("cx", 0, 1)}, numbers(1, 1, 0, 0, 1)},
		{zero(t, 2), []api.Op{op("h", 1), op("cx", 1, 0), op("s", 0)}, numbers(1, 1, 0, 0, 1i)},
		{basis(t, 3, 6), []api.Op{op("ccx", 1, 2, 0), op("x", 1)}, numbers(0, 0, 0, 0, 0, 0, 1, 0, 0)},
		{basis(t, 1, 1), []api.Op{op("t", 0), op("t", 0), op("t", 0)}, state(0, whole(0), element(0, 1i))},
		{numbers(60, 1, 1), []api.Op{op("h", 0)}, numbers(59, 1, 0)},
	} {
		if s := run(t, c.s, circuitOf(c.s.N, c.ops...)); !same(s, c.want) {
			t.Errorf("%v of %v: %v, not %v", c.ops, c.s, s, c.want)
		}
	}
}

// P13.1: a circuit of no operations leaves the state, whatever its bits.
func TestNoOperations(t *testing.T) {
	r := source(21)
	for n := range 11 {
		s := r.state(n, 53, 60)
		for _, ops := range [][]api.Op{nil, {}} {
			for _, bits := range []int{0, 1, 64} {
				if z := run(t, s, api.Circuit{Qubits: n, Bits: bits, Ops: ops}); !same(z, s) {
					t.Errorf("%v became %v", few(s), few(z))
				}
			}
		}
	}
}

// P13.1: what Run refuses, in order: what circuit.Check does, what is no gate or under a condition, another number of qubits.
func TestRunRefuses(t *testing.T) {
	h := op("h", 0)
	two := func(ops ...api.Op) api.Circuit { return api.Circuit{Qubits: 2, Bits: 2, Ops: ops} }
	three := func(ops ...api.Op) api.Circuit { return api.Circuit{Qubits: 3, Bits: 2, Ops: ops} }
	for _, c := range []struct {
		c api.Circuit
		e api.Errno
	}{
		{api.Circuit{Qubits: -1}, api.ErrArg},
		{api.Circuit{Qubits: 65}, api.ErrArg},
		{api.Circuit{Qubits: 2, Bits: -1}, api.ErrArg},
		{api.Circuit{Qubits: 2, Bits: 65}, api.ErrArg},
		{api.Circuit{Qubits: math.MinInt, Bits: math.MaxInt}, api.ErrArg},
		{two(slices.Repeat([]api.Op{op("x", 0)}, 4097)...), api.ErrMany},
		{two(slices.Repeat([]api.Op{op("x", 0)}, 4096)...), api.OK},
		{two(slices.Repeat([]api.Op{h}, 37)...), api.ErrRoots},
		{two(slices.Repeat([]api.Op{h}, 36)...), api.OK},
		{two(h, op("none", 0)), api.ErrGate},
		{two(h, op("cx", 0)), api.ErrArity},
		{two(h, op("x", 2)), api.ErrIndex},
		{two(h, op("x", -1)), api.ErrIndex},
		{two(h, op("cx", 1, 1)), api.ErrSame},
		{two(h, api.Op{}), api.ErrOp},
		{two(h, api.Op{Kind: api.OpGate, Name: "x", Qubits: []int{0}, Mask: 1}), api.ErrOp},
		{two(h, measure(0, 2)), api.ErrIndex},
		// no gates alone
		{two(measure(0, 0)), api.ErrBack},
		{two(h, measure(0, 1), h), api.ErrBack},
		{two(h, reset(1)), api.ErrBack},
		{two(when(h, 1, 1)), api.ErrBack},
		{two(when(h, 1, 0)), api.ErrBack},
		{two(h, when(op("cx", 0, 1), 3, 2)), api.ErrBack},
		{two(when(measure(0, 0), 1, 1)), api.ErrBack},
		{two(when(reset(0), 1, 1)), api.ErrBack},
		// another number of qubits
		{api.Circuit{}, api.ErrArg},
		{api.Circuit{Qubits: 1}, api.ErrArg},
		{three(), api.ErrArg},
		{three(h), api.ErrArg},
		{three(op("x", 2)), api.ErrArg},
		{api.Circuit{Qubits: 64}, api.ErrArg},
		// two errors at once
		{three(measure(0, 0)), api.ErrBack},
		{three(when(h, 1, 1)), api.ErrBack},
		{three(op("none", 0)), api.ErrGate},
		{two(measure(0, 0), op("none", 0)), api.ErrGate},
		{two(measure(0, 0), op("x", 2)), api.ErrIndex},
		{three(slices.Repeat([]api.Op{h}, 37)...), api.ErrRoots},
		{three(slices.Repeat([]api.Op{measure(0, 0)}, 4097)...), api.ErrMany},
		{two(h, op("cx", 0, 1)), api.OK},
	} {
		s, e := dense.Run(zero(t, 2), c.c)
		if c.e == api.OK {
			taken(t, s, e)
			continue
		}
		refused(t, "Run", s, e, c.e)
	}
}

// P13.1: an operation that is refused on the way refuses all, also where a later one would bring it back; and it comes behind all other errors.
func TestRefusedOnTheWay(t *testing.T) {
	far, big := numbers(60, 1, 0), numbers(0, top, 1)
	h, x := op("h", 0), op("x", 0)
	for _, c := range []struct {
		s   api.State
		c   api.Circuit
		e   api.Errno
		end api.State
	}{
		{far, circuitOf(1, h), api.ErrBig, api.State{}},
		{far, circuitOf(1, h, h), api.ErrBig, api.State{}},
		{far, circuitOf(1, x, x, h, x, h), api.ErrBig, api.State{}},
		{far, circuitOf(1, x, x, x), api.OK, numbers(60, 0, 1)},
		{numbers(60, 1, 1), circuitOf(1, h, h), api.OK, numbers(60, 1, 1)},
		{numbers(60, 1, 1), circuitOf(1, h, h, h, h, op("t", 0), h), api.ErrBig, api.State{}},
		{big, circuitOf(1, h, h), api.ErrBig, api.State{}},
		{big, circuitOf(1, x, h), api.ErrBig, api.State{}},
		{big, circuitOf(1, x), api.OK, numbers(0, 1, top)},
		{far, circuitOf(1, h, measure(0, 0)), api.ErrIndex, api.State{}},
		{far, circuitOf(1, h, reset(0)), api.ErrBack, api.State{}},
		{far, circuitOf(2, h), api.ErrArg, api.State{}},
		{far, circuitOf(1, h, op("none", 0)), api.ErrGate, api.State{}},
	} {
		s, e := dense.Run(c.s, c.c)
		if e != c.e || !same(s, c.end) {
			t.Errorf("%v of %v: %v, %d, not %v, %d", c.c, c.s, s, e, c.end, c.e)
		}
	}
}

// P3: a circuit and then its inverse leads each basis state to itself.
func TestThereAndBack(t *testing.T) {
	s := source(22)
	for range 60 {
		for n := 1; n <= 5; n++ {
			c := s.circuit(n, 40, 18)
			back, e := circuit.Inverse(c)
			if e != api.OK {
				t.Fatal(e)
			}
			for index := range uint64(1) << n {
				b := basis(t, n, index)
				if z := run(t, run(t, b, c), back); !same(z, b) {
					t.Fatalf("%v, there and back, leads %v to %v", c, b, z)
				}
			}
		}
	}
}

// P13.1: Run of two circuits one behind the other is Run of both, and the operations one by one.
func TestOneBehindTheOther(t *testing.T) {
	s := source(23)
	for range 100 {
		n := 1 + s.below(5)
		given := s.state(n, 8, 10)
		a, b := s.circuit(n, 20, 10), s.circuit(n, 20, 10)
		both, e := circuit.Then(a, b)
		if e != api.OK {
			t.Fatal(e)
		}
		one := given
		for _, op := range both.Ops {
			one = apply(t, one, op.Name, op.Qubits...)
		}
		if z := run(t, given, both); !same(z, one) || !same(z, run(t, run(t, given, a), b)) {
			t.Fatalf("%v of %v: %v", both, given, z)
		}
	}
}

// The greatest circuits on the greatest states end soon.
func TestGreatestRunEnds(t *testing.T) {
	c := circuitOf(10)
	for q := range 10 {
		c.Ops = append(c.Ops, op("h", q), op("t", q))
	}
	for len(c.Ops) < 4096 {
		f := facts[len(c.Ops)%len(facts)]
		if f.halve == 0 {
			c.Ops = append(c.Ops, op(f.name, []int{9, len(c.Ops) % 4, 4 + len(c.Ops)%5}[:f.qubits]...))
		} else {
			c.Ops = append(c.Ops, op("w", len(c.Ops)%10))
		}
	}
	begin := time.Now()
	s := run(t, zero(t, 10), c)
	if took := time.Since(begin); took > 30*time.Second {
		t.Errorf("it took %v", took)
	}
	if w, e := dense.Weight(s); w != (api.Root{P: 1}) || e != api.OK {
		t.Errorf("its weight: %v, %d", w, e)
	}
}
