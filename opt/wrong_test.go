package opt_test

import (
	"math"
	"slices"
	"testing"

	"cubit/api"
	"cubit/circuit"
	"cubit/opt"
)

// refused asks that Step and Run tell this error, with nothing beside it.
func refused(t *testing.T, c api.Circuit, e api.Errno) {
	t.Helper()
	if d, more, f := opt.Step(c); !none(d) || more || f != e {
		t.Errorf("Step of %s: %s, %v, %d, not %d", few(c), few(d), more, f, e)
	}
	if d, f := opt.Run(c); !none(d) || f != e {
		t.Errorf("Run of %s: %s, %d, not %d", few(c), few(d), f, e)
	}
}

// A wrong is an operation that isn't right for three qubits and three bits.
type wrong struct {
	op api.Op
	e  api.Errno
}

func wrongs() []wrong {
	flawed := func(o api.Op, change func(o *api.Op)) api.Op {
		o.Qubits = slices.Clone(o.Qubits)
		change(&o)
		return o
	}
	x, m, r := op("x", 0), measure(0, 0), reset(0)
	return []wrong{
		{api.Op{}, api.ErrOp},
		{flawed(x, func(o *api.Op) { o.Kind = 4 }), api.ErrOp},
		{flawed(x, func(o *api.Op) { o.Kind = -1 }), api.ErrOp},
		{flawed(x, func(o *api.Op) { o.Kind = math.MaxInt }), api.ErrOp},
		{flawed(x, func(o *api.Op) { o.Mask = 1 }), api.ErrOp},
		{flawed(x, func(o *api.Op) { o.Value = 1 }), api.ErrOp},
		{flawed(x, func(o *api.Op) { o.If = true }), api.ErrOp},
		{flawed(x, func(o *api.Op) { o.Bit = 1 }), api.ErrOp},
		{when(x, 8, 0), api.ErrOp},
		{when(x, 1<<63, 0), api.ErrOp},
		{when(x, 1, 2), api.ErrOp},
		{when(m, 0, 0), api.ErrOp},
		{flawed(m, func(o *api.Op) { o.Name = "i" }), api.ErrOp},
		{flawed(r, func(o *api.Op) { o.Name = "i" }), api.ErrOp},
		{flawed(r, func(o *api.Op) { o.Bit = 1 }), api.ErrOp},
		{op("", 0), api.ErrGate},
		{op("foo", 0), api.ErrGate},
		{op("I", 0), api.ErrGate},
		{op("i ", 0), api.ErrGate},
		{op("foo", 9, 9), api.ErrGate},
		{op("i"), api.ErrArity},
		{op("h", 0, 1), api.ErrArity},
		{op("cx", 0), api.ErrArity},
		{op("ccz", 0, 1), api.ErrArity},
		{api.Op{Kind: api.OpMeasure}, api.ErrArity},
		{api.Op{Kind: api.OpReset, Qubits: []int{0, 1}}, api.ErrArity},
		{op("i", 3), api.ErrIndex},
		{op("x", -1), api.ErrIndex},
		{op("x", math.MinInt), api.ErrIndex},
		{op("x", math.MaxInt), api.ErrIndex},
		{op("x", 64), api.ErrIndex},
		{op("cx", 3, 3), api.ErrIndex},
		{measure(3, 0), api.ErrIndex},
		{measure(0, 3), api.ErrIndex},
		{measure(0, -1), api.ErrIndex},
		{measure(0, math.MaxInt), api.ErrIndex},
		{reset(-1), api.ErrIndex},
		{op("cx", 0, 0), api.ErrSame},
		{op("swap", 2, 2), api.ErrSame},
		{op("ccx", 0, 1, 0), api.ErrSame},
		{op("ccz", 1, 1, 1), api.ErrSame},
	}
}

// Rule 8: what circuit.Check refuses is refused with its error, wherever it stands, also among operations that would be taken out.
func TestWrongOperations(t *testing.T) {
	for _, w := range wrongs() {
		for _, text := range []string{"", "i0 i1", "x0 x0", "t0 t1 t0", "h0 x0 h0", "x0? m11 x0?"} {
			list := ops(text)
			for at := range len(list) + 1 {
				refused(t, of(3, 3, slices.Insert(slices.Clone(list), at, w.op)...), w.e)
			}
		}
		refused(t, of(3, 3, w.op, w.op), w.e)
		for _, other := range wrongs() {
			refused(t, of(3, 3, op("h", 0), w.op, other.op), w.e)
		}
	}
}

// Rule 8: numbers of qubits and bits, ahead of all else; no operation of no qubits.
func TestWrongNumbers(t *testing.T) {
	for _, n := range []int{-1, 65, math.MinInt, math.MaxInt, 1 << 32, -64} {
		for _, list := range [][]api.Op{nil, ops("i0"), {{}}, make([]api.Op, api.MaxOps+1)} {
			refused(t, of(n, 3, list...), api.ErrArg)
			refused(t, of(3, n, list...), api.ErrArg)
			refused(t, of(n, n, list...), api.ErrArg)
		}
	}
	refused(t, of(0, 0, ops("i0")...), api.ErrIndex)
	refused(t, of(0, 64, ops("r0")...), api.ErrIndex)
	refused(t, of(1, 0, ops("m00")...), api.ErrIndex)
	refused(t, of(1, 0, ops("x0?")...), api.ErrOp)
}

// Rule 8: too many operations and too many halvings are refused, though the rules would take them out; as many as there may be are taken.
func TestTooMany(t *testing.T) {
	for _, text := range []string{"i0", "x0", "t0", "h0", "foo0"} {
		refused(t, of(3, 3, slices.Repeat(ops(text), api.MaxOps+1)...), api.ErrMany)
	}
	for _, text := range []string{"h0", "v0", "ch01", "h0?"} {
		list := slices.Repeat(ops(text), api.MaxHalf)
		run(t, of(3, 3, list...))
		step(t, of(3, 3, list...))
		refused(t, of(3, 3, append(list, ops(text)...)...), api.ErrRoots)
		refused(t, of(3, 3, append(list, op("h", 2))...), api.ErrRoots)
		refused(t, of(3, 3, append(list, op("h", 3))...), api.ErrIndex)
	}
	if d := run(t, of(3, 3, slices.Repeat(ops("h0"), api.MaxHalf)...)); len(d.Ops) != 0 {
		t.Errorf("36 times h: %s", few(d))
	}
	if d := run(t, of(3, 3, slices.Repeat(ops("i0"), api.MaxOps)...)); len(d.Ops) != 0 {
		t.Errorf("4096 times i: %s", few(d))
	}
}

// spoiled is a circuit with something changed at random, right or not.
func (s *source) spoiled(c api.Circuit) api.Circuit {
	c.Ops = slices.Clone(c.Ops)
	if len(c.Ops) == 0 || s.below(8) == 0 {
		return of(s.below(70)-2, s.below(70)-2, c.Ops...)
	}
	o := &c.Ops[s.below(len(c.Ops))]
	switch s.below(8) {
	case 0:
		o.Kind = s.below(6) - 1
	case 1:
		o.Name = pick(s, "", "i", "x", "cx", "foo", "ccz")
	case 2:
		o.Qubits = append(slices.Clone(o.Qubits), s.below(6)-1)
	case 3:
		o.Qubits = slices.Clone(o.Qubits)[:max(0, len(o.Qubits)-1)]
	case 4:
		o.Qubits = slices.Repeat([]int{s.below(6) - 1}, len(o.Qubits))
	case 5:
		o.Bit = s.below(6) - 1
	case 6:
		o.If = !o.If
	case 7:
		o.Mask, o.Value = uint64(s.below(6)), uint64(s.below(6))
	}
	return c
}

// Rule 8, rule 1: what comes of circuits with flaws is told by circuit.Check; those that it takes are taken.
func TestSpoiled(t *testing.T) {
	s := source(21)
	errors := map[api.Errno]int{}
	for range 6000 {
		w := s.want()
		w.ops = s.below(8)
		c := s.spoiled(s.circuit(w))
		if s.below(3) == 0 {
			c = s.spoiled(c)
		}
		_, e := circuit.Check(c)
		errors[e]++
		if e != api.OK {
			refused(t, c, e)
			continue
		}
		keepsShape(t, c, run(t, c))
	}
	for _, e := range []api.Errno{api.OK, api.ErrArg, api.ErrOp, api.ErrGate, api.ErrArity, api.ErrIndex, api.ErrSame} {
		if errors[e] < 10 {
			t.Errorf("errors: %v", errors)
		}
	}
}
