package path_test

import (
	"math"
	"slices"
	"testing"

	"cubit/api"
	"cubit/circuit"
	"cubit/path"
)

func measure(qubit, bit int) api.Op {
	return api.Op{Kind: api.OpMeasure, Qubits: []int{qubit}, Bit: bit}
}

func reset(qubit int) api.Op { return api.Op{Kind: api.OpReset, Qubits: []int{qubit}} }

// when is the operation under a condition.
func when(op api.Op, mask, value uint64) api.Op {
	op.If, op.Mask, op.Value = true, mask, value
	return op
}

// refuse asks all three calls for an error of the circuit, whatever the numbers are, and for nothing beside it.
func refuse(t *testing.T, c api.Circuit, want api.Errno) {
	t.Helper()
	if n, e := path.Count(c); n != 0 || e != want {
		t.Errorf("Count: %d, %d, not %d alone", n, e, want)
	}
	for _, from := range []uint64{0, 1, 1 << 10, 1 << 63, math.MaxUint64} {
		refuseState(t, c, from, want)
		for _, to := range []uint64{0, 2, math.MaxUint64} {
			refuseAmp(t, c, from, to, want)
		}
	}
}

func refuseState(t *testing.T, c api.Circuit, from uint64, want api.Errno) {
	t.Helper()
	if s, e := path.State(c, from); !same(s, api.State{}) || e != want {
		t.Errorf("State from %d: %v, %d, not %d alone", from, few(s), e, want)
	}
}

func refuseAmp(t *testing.T, c api.Circuit, from, to uint64, want api.Errno) {
	t.Helper()
	if a, e := path.Amp(c, from, to); !sameAmp(a, api.Amp{}) || e != want {
		t.Errorf("Amp from %d to %d: %v, %d, not %d alone", from, to, a, e, want)
	}
}

// two is a circuit of two qubits and two bits.
func two(ops ...api.Op) api.Circuit { return api.Circuit{Qubits: 2, Bits: 2, Ops: ops} }

// P15.1: what circuit.Check refuses, with its error ahead of all others.
func TestNoCircuits(t *testing.T) {
	h, m := op("h", 0), measure(0, 0)
	for _, w := range []struct {
		c api.Circuit
		e api.Errno
	}{
		{api.Circuit{Qubits: -1}, api.ErrArg},
		{api.Circuit{Qubits: 65}, api.ErrArg},
		{api.Circuit{Qubits: math.MinInt}, api.ErrArg},
		{api.Circuit{Qubits: math.MaxInt}, api.ErrArg},
		{api.Circuit{Qubits: 2, Bits: -1}, api.ErrArg},
		{api.Circuit{Qubits: 2, Bits: 65}, api.ErrArg},
		{api.Circuit{Qubits: 65, Ops: times(4097, h)}, api.ErrArg},
		{two(times(4097, op("x", 0))...), api.ErrMany},
		{two(times(4097, m)...), api.ErrMany},
		{two(times(37, h)...), api.ErrRoots},
		{two(append(times(37, h), m)...), api.ErrRoots},
		{two(append([]api.Op{m}, times(37, h)...)...), api.ErrRoots},
		{two(op("none", 0)), api.ErrGate},
		{two(op("", 0)), api.ErrGate},
		{two(op("cx", 0)), api.ErrArity},
		{two(op("h")), api.ErrArity},
		{two(op("x", 2)), api.ErrIndex},
		{two(op("x", -1)), api.ErrIndex},
		{two(op("x", math.MaxInt)), api.ErrIndex},
		{two(op("cx", 1, 1)), api.ErrSame},
		{two(api.Op{}), api.ErrOp},
		{two(api.Op{Kind: 4, Name: "x", Qubits: []int{0}}), api.ErrOp},
		{two(api.Op{Kind: api.OpGate, Name: "x", Qubits: []int{0}, Mask: 1}), api.ErrOp},
		{two(api.Op{Kind: api.OpGate, Name: "x", Qubits: []int{0}, Bit: 1}), api.ErrOp},
		{two(when(h, 4, 0)), api.ErrOp},
		{two(measure(0, 2)), api.ErrIndex},
		{circuitOf(0, h), api.ErrIndex},
		// ahead of what isn't clean, of too many paths, and of both
		{two(m, op("none", 0)), api.ErrGate},
		{two(when(h, 1, 1), op("x", 2)), api.ErrIndex},
		{two(append(times(17, h), op("cx", 1, 1))...), api.ErrSame},
		{two(append(times(36, h), m, op("none", 0))...), api.ErrGate},
		// ahead of more than MaxQubits
		{api.Circuit{Qubits: 11, Ops: []api.Op{op("x", 11)}}, api.ErrIndex},
		{api.Circuit{Qubits: 64, Ops: []api.Op{op("none", 0)}}, api.ErrGate},
	} {
		if _, e := circuit.Check(w.c); e != w.e {
			t.Fatalf("circuit.Check tells %d, not %d", e, w.e)
		}
		refuse(t, w.c, w.e)
	}
}

// P15.1: ErrArg of what isn't Clean, also where the paths would be too many.
func TestNotClean(t *testing.T) {
	h, x, m := op("h", 0), op("x", 0), measure(0, 0)
	for _, ops := range [][]api.Op{
		{m},
		{reset(0)},
		{when(x, 1, 0)},
		{when(x, 1, 1)},
		{when(h, 3, 2)},
		{when(m, 1, 1)},
		{when(reset(1), 2, 2)},
		{h, x, m},
		{m, h, x},
		{h, reset(1), h},
		{h, h, when(op("cx", 0, 1), 1, 1), h},
		append(times(17, h), m),
		append([]api.Op{reset(0)}, times(36, h)...),
		append(times(16, h), when(h, 1, 0)),
		times(4096, m),
	} {
		refuse(t, two(ops...), api.ErrArg)
		refuse(t, api.Circuit{Qubits: 64, Bits: 64, Ops: ops}, api.ErrArg)
	}
}

// P15.1: 17 halvings are refused, 16 are not, whatever gates halve, and whatever qubits they are on.
func TestTooManyPaths(t *testing.T) {
	for _, f := range facts {
		if f.halve == 0 {
			continue
		}
		for many := 14; many <= 36; many++ {
			c := circuitOf(2, times(many, op(f.name, []int{1, 0}[:f.qubits]...))...)
			if many > 16 {
				refuse(t, c, api.ErrMany)
				continue
			}
			counts(t, c, 1<<many)
			ampOf(t, c, 0, 0)
			if _, e := path.State(c, 0); e != api.OK {
				t.Errorf("State of %d %s: %d", many, f.name, e)
			}
		}
	}
	far := circuitOf(64)
	for j := range 17 {
		far.Ops = append(far.Ops, op("h", 3*j), op("x", j))
	}
	refuse(t, far, api.ErrMany)
	// a ch whose control is 0 halves too
	refuse(t, circuitOf(2, slices.Concat(times(16, op("h", 1)), times(1, op("ch", 0, 1)))...), api.ErrMany)
}

// P15.1: from and to with a one at Qubits or above; both behind all that is wrong with the circuit.
func TestNoSuchState(t *testing.T) {
	for n := range 65 {
		c := circuitOf(n)
		if n > 0 {
			c.Ops = []api.Op{op("h", n-1), op("x", 0)}
		}
		top := uint64(1)<<n - 1
		ampOf(t, c, top, top)
		for place := n; place < 64; place++ {
			bit := uint64(1) << place
			refuseAmp(t, c, bit, 0, api.ErrArg)
			refuseAmp(t, c, 0, bit, api.ErrArg)
			refuseAmp(t, c, bit|top, top, api.ErrArg)
			refuseAmp(t, c, top, bit|top, api.ErrArg)
			refuseAmp(t, c, bit, bit, api.ErrArg)
			refuseState(t, c, bit, api.ErrArg)
			refuseState(t, c, bit|top, api.ErrArg)
		}
		if n < 64 {
			refuseAmp(t, c, math.MaxUint64, 0, api.ErrArg)
			refuseAmp(t, c, 0, math.MaxUint64, api.ErrArg)
			refuseState(t, c, math.MaxUint64, api.ErrArg)
		}
	}
}

// P15.1: a state has MaxQubits qubits at most; Amp and Count take more.
func TestMostQubits(t *testing.T) {
	for n := 9; n <= 64; n++ {
		c := circuitOf(n, op("h", n-1))
		counts(t, c, 2)
		leads(t, c, 0, 1<<(n-1), over(1, 1))
		s, e := path.State(c, 0)
		if n <= 10 {
			if e != api.OK || s.N != n || s.K != 1 || len(s.Amps) != 1<<n || s.Amps[0] != whole(1) || s.Amps[1<<(n-1)] != whole(1) {
				t.Errorf("State of %d qubits: %v, %d", n, few(s), e)
			}
			continue
		}
		refuseState(t, c, 0, api.ErrArg)
		refuseState(t, c, 1<<(n-1), api.ErrArg)
		refuseState(t, circuitOf(n), 0, api.ErrArg)
	}
}
