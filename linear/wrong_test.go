package linear_test

import (
	"math"
	"slices"
	"testing"

	"cubit/api"
	"cubit/circuit"
	gates "cubit/gate"
	"cubit/linear"
)

// wrong are matrices that are none.
func wrong() []api.Linear {
	list := []api.Linear{
		{N: 1}, {N: 2, Rows: []uint64{1}}, {N: 2, Rows: []uint64{1, 2, 4}}, {Rows: []uint64{0}},
		{N: 64, Rows: make([]uint64, 63)}, {N: 64, Rows: make([]uint64, 65)},
		{N: 1, Rows: []uint64{2}}, {N: 2, Rows: []uint64{4, 2}}, {N: 2, Rows: []uint64{1, 4}}, {N: 3, Rows: []uint64{3, 3, 8}},
		{N: 63, Rows: append(make([]uint64, 62), 1<<63)}, {N: 8, Rows: []uint64{0, 0, 0, math.MaxUint64, 0, 0, 0, 0}},
	}
	for _, n := range []int{-1, -2, -64, 65, 66, math.MinInt, math.MaxInt, 1 << 32} {
		list = append(list, api.Linear{N: n}, api.Linear{N: n, Rows: make([]uint64, 65)}, api.Linear{N: n, Rows: []uint64{1}})
	}
	return list
}

// right are some matrices, of sizes that wrong has too.
func right() []api.Linear {
	return []api.Linear{{}, matrix(1), matrix(0), matrix(1, 3), matrix(3, 3), eye(3), eye(8), eye(63), eye(64)}
}

// noProduct asks that Mul refuses, with nothing beside it.
func noProduct(t *testing.T, a, b api.Linear) {
	t.Helper()
	if m, e := linear.Mul(a, b); !none(m) || e != api.ErrArg {
		t.Errorf("Mul(%v, %v): %v, %d", a, b, m, e)
	}
}

// Rule 8: each call refuses what Check refuses, ahead of all else, with nothing beside it.
func TestWrongMatrices(t *testing.T) {
	for _, m := range wrong() {
		if e := linear.Check(m); e != api.ErrArg {
			t.Errorf("Check(%v): %d", m, e)
		}
		for _, x := range []uint64{0, 1, 3, math.MaxUint64} {
			if y, e := linear.Apply(m, x); y != 0 || e != api.ErrArg {
				t.Errorf("Apply(%v, %d): %d, %d", m, x, y, e)
			}
		}
		if r, e := linear.Rank(m); r != 0 || e != api.ErrArg {
			t.Errorf("Rank(%v): %d, %d", m, r, e)
		}
		if r, e := linear.Inverse(m); !none(r) || e != api.ErrArg {
			t.Errorf("Inverse(%v): %v, %d", m, r, e)
		}
		if c, e := linear.Synth(m); !empty(c) || e != api.ErrArg {
			t.Errorf("Synth(%v): %v, %d", m, c, e)
		}
		for _, other := range append(right(), wrong()...) {
			noProduct(t, m, other)
			noProduct(t, other, m)
		}
	}
}

// P20.1: Mul of matrices of different sizes.
func TestUnlikeSizes(t *testing.T) {
	s := source(41)
	for a := range api.MaxRows + 1 {
		for b := range api.MaxRows + 1 {
			if a != b {
				noProduct(t, s.any(a), s.any(b))
			}
		}
	}
}

// refused asks that From tells this error, with nothing beside it.
func refused(t *testing.T, c api.Circuit, e api.Errno) {
	t.Helper()
	if m, f := linear.From(c); !none(m) || f != e {
		t.Errorf("From(%v): %v, %d, not %d", c, m, f, e)
	}
}

// with is a circuit of three qubits and two bits.
func with(ops ...api.Op) api.Circuit { return api.Circuit{Qubits: 3, Bits: 2, Ops: ops} }

// P20.1: no operation but cx and swap without a condition, wherever it stands: neither another gate, nor a measurement, nor a reset.
func TestNoOtherOperations(t *testing.T) {
	others := []api.Op{{Kind: api.OpMeasure, Qubits: []int{0}}, {Kind: api.OpMeasure, Qubits: []int{2}, Bit: 1}, {Kind: api.OpReset, Qubits: []int{1}}}
	for _, op := range others[:3] {
		others = append(others, when(op, 3, 2))
	}
	for _, name := range gates.Names() {
		op := gate(name, []int{2, 0, 1}[:gates.Arity(name)]...)
		for value := range uint64(2) {
			others = append(others, when(op, 1, value), when(op, 2, 2*value))
		}
		if name != "cx" && name != "swap" {
			others = append(others, op)
		}
	}
	for _, op := range others {
		list := on(3, "cx01", "swap12", "cx20").Ops
		for at := range len(list) + 1 {
			refused(t, with(slices.Insert(slices.Clone(list), at, op)...), api.ErrOp)
		}
		refused(t, with(op), api.ErrOp)
		refused(t, with(op, op), api.ErrOp)
	}
}

// P20.1: what circuit.Check refuses is refused with its error, also where an operation ahead is none of cx and swap.
func TestWrongCircuits(t *testing.T) {
	cx := gate("cx", 0, 1)
	bad := []api.Op{
		{}, {Kind: 4, Name: "cx", Qubits: []int{0, 1}}, {Kind: -1}, when(cx, 0, 0), when(cx, 4, 0), when(cx, 1, 2), when(cx, 1<<63, 0),
		{Kind: api.OpGate, Name: "cx", Qubits: []int{0, 1}, Mask: 1}, {Kind: api.OpGate, Name: "cx", Qubits: []int{0, 1}, Value: 1}, {Kind: api.OpGate, Name: "swap", Qubits: []int{0, 1}, Bit: 1},
		{Kind: api.OpReset, Name: "cx", Qubits: []int{0, 1}}, {Kind: api.OpMeasure, Name: "swap", Qubits: []int{0, 1}},
		gate("", 0, 1), gate("CX", 0, 1), gate("cnot", 0, 1), gate("cx ", 0, 1),
		gate("cx"), gate("cx", 0), gate("swap", 1), gate("cx", 0, 1, 2), gate("swap", 0, 1, 2),
		gate("cx", 0, 3), gate("cx", -1, 0), gate("swap", 3, 3), gate("swap", 0, math.MaxInt), gate("cx", math.MinInt, 0), gate("swap", 64, 0),
		gate("cx", 1, 1), gate("swap", 2, 2),
	}
	found := map[api.Errno]int{}
	for _, op := range bad {
		for _, list := range [][]api.Op{nil, on(3, "cx01").Ops, on(3, "h0").Ops, on(3, "swap12", "x1", "cx20").Ops, {when(cx, 1, 1)}, {{Kind: api.OpReset, Qubits: []int{0}}}} {
			for at := range len(list) + 1 {
				c := with(slices.Insert(slices.Clone(list), at, op)...)
				_, e := circuit.Check(c)
				found[e]++
				refused(t, c, e)
			}
		}
	}
	for _, e := range []api.Errno{api.ErrOp, api.ErrGate, api.ErrArity, api.ErrIndex, api.ErrSame} {
		if found[e] < 10 {
			t.Errorf("errors: %v", found)
		}
	}
}

// P20.1: the numbers of a circuit that circuit.Check refuses, ahead of the operations.
func TestWrongNumbers(t *testing.T) {
	for _, n := range []int{-1, 65, math.MinInt, math.MaxInt, -64, 1 << 32} {
		for _, list := range [][]api.Op{nil, on(3, "cx01").Ops, on(3, "h0").Ops, {{}}, make([]api.Op, api.MaxOps+1)} {
			refused(t, api.Circuit{Qubits: n, Ops: list}, api.ErrArg)
			refused(t, api.Circuit{Qubits: 3, Bits: n, Ops: list}, api.ErrArg)
			refused(t, api.Circuit{Qubits: n, Bits: n, Ops: list}, api.ErrArg)
		}
	}
	for _, word := range []string{"cx01", "swap01", "h0", "foo0"} {
		refused(t, on(2, slices.Repeat([]string{word}, api.MaxOps+1)...), api.ErrMany)
	}
	halving := slices.Repeat([]string{"h0"}, api.MaxHalf)
	refused(t, on(2, append(halving, "cx01")...), api.ErrOp)
	refused(t, on(2, append(halving, "h1")...), api.ErrRoots)
	refused(t, on(0, "cx01"), api.ErrIndex)
	refused(t, on(1, "swap01"), api.ErrIndex)
}

// shaped is a matrix with something changed at random, right or not.
func (s *source) shaped(m api.Linear) api.Linear {
	m.Rows = slices.Clone(m.Rows)
	switch s.below(5) {
	case 0:
		m.N += s.below(5) - 2
	case 1:
		m.Rows = append(m.Rows, s.number(m.N))
	case 2:
		m.Rows = m.Rows[:s.below(len(m.Rows)+1)]
	case 3:
		if len(m.Rows) > 0 {
			m.Rows[s.below(len(m.Rows))] |= 1 << s.below(64)
		}
	}
	return m
}

// Rule 1, rule 8: of matrices of all shapes those are taken that are such, and all calls agree on it.
func TestAllShapes(t *testing.T) {
	s := source(42)
	taken, not := 0, 0
	for range 4000 {
		m := s.shaped(s.some(s.below(65)))
		want := api.OK
		if m.N < 0 || m.N > 64 || len(m.Rows) != m.N || slices.ContainsFunc(m.Rows, func(row uint64) bool { return row > last(m.N) }) {
			want = api.ErrArg
		}
		_, rankErr := linear.Rank(m)
		_, mulErr := linear.Mul(m, m)
		_, applyErr := linear.Apply(m, 0)
		_, inverseErr := linear.Inverse(m)
		_, synthErr := linear.Synth(m)
		if e := linear.Check(m); e != want || rankErr != want || mulErr != want || applyErr != want || inverseErr != synthErr || (want == api.OK) != (inverseErr != api.ErrArg) {
			t.Errorf("%v: %d, %d, %d, %d, %d, %d, not %d", m, e, rankErr, mulErr, applyErr, inverseErr, synthErr, want)
		}
		if want == api.OK {
			taken++
		} else {
			not++
		}
	}
	if taken < 500 || not < 500 {
		t.Errorf("%d taken, %d not", taken, not)
	}
}
