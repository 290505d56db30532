package circuit_test

import (
	"math"
	"reflect"
	"slices"
	"testing"

	"cubit/api"
	"cubit/circuit"
)

// The ends of int.
const (
	least = math.MinInt
	most  = math.MaxInt
)

// A flaw makes an operation of the gate cx 0 1, in a circuit of three qubits and two bits, one that Check refuses with this error.
type flaw struct {
	e     api.Errno
	spoil func(*api.Op)
}

// bare sets a condition's fields and no If.
func bare(mask, value uint64) func(*api.Op) {
	return func(op *api.Op) { op.If, op.Mask, op.Value = false, mask, value }
}

func under(mask, value uint64) func(*api.Op) {
	return func(op *api.Op) { *op = when(*op, mask, value) }
}

func kind(k int) func(*api.Op) { return func(op *api.Op) { op.Kind = k } }

func name(s string) func(*api.Op) { return func(op *api.Op) { op.Name = s } }

func bit(b int) func(*api.Op) { return func(op *api.Op) { op.Bit = b } }

func on(qubits ...int) func(*api.Op) { return func(op *api.Op) { op.Qubits = qubits } }

// conditionFlaws are those of a condition: they are the same of each Kind.
var conditionFlaws = []flaw{
	{api.ErrOp, bare(1, 0)}, {api.ErrOp, bare(1, 1)}, {api.ErrOp, bare(0, 1)}, {api.ErrOp, bare(1<<63, 0)}, {api.ErrOp, bare(0, 1<<63)},
	{api.ErrOp, under(0, 0)}, {api.ErrOp, under(0, 1)},
	{api.ErrOp, under(4, 0)}, {api.ErrOp, under(7, 0)}, {api.ErrOp, under(1<<63, 1<<63)}, {api.ErrOp, under(1<<63|1, 1)}, {api.ErrOp, under(math.MaxUint64, 0)},
	{api.ErrOp, under(1, 2)}, {api.ErrOp, under(1, 3)}, {api.ErrOp, under(2, 1)}, {api.ErrOp, under(3, 4)}, {api.ErrOp, under(1, 1<<63)},
}

// gateFlaws are those of a gate.
var gateFlaws = slices.Concat(conditionFlaws, []flaw{
	{api.ErrOp, kind(0)}, {api.ErrOp, kind(4)}, {api.ErrOp, kind(-1)}, {api.ErrOp, kind(least)}, {api.ErrOp, kind(most)}, {api.ErrOp, kind(1 << 32)}, {api.ErrOp, kind(1<<32 + 1)},
	{api.ErrOp, kind(api.OpMeasure)}, {api.ErrOp, kind(api.OpReset)}, // with a Name
	{api.ErrOp, bit(1)}, {api.ErrOp, bit(-1)}, {api.ErrOp, bit(2)}, {api.ErrOp, bit(least)}, {api.ErrOp, bit(most)},
	{api.ErrGate, name("")}, {api.ErrGate, name("foo")}, {api.ErrGate, name("CX")}, {api.ErrGate, name("cx ")}, {api.ErrGate, name("measure")}, {api.ErrGate, name("\x00")}, {api.ErrGate, name("cxcx")},
	{api.ErrArity, on()}, {api.ErrArity, on(0)}, {api.ErrArity, on(0, 1, 2)}, {api.ErrArity, on(0, 1, 2, 0)}, {api.ErrArity, name("x")}, {api.ErrArity, name("ccx")}, {api.ErrArity, on(make([]int, 100000)...)},
	{api.ErrIndex, on(-1, 1)}, {api.ErrIndex, on(0, -1)}, {api.ErrIndex, on(3, 1)}, {api.ErrIndex, on(0, 3)}, {api.ErrIndex, on(0, most)}, {api.ErrIndex, on(least, 0)}, {api.ErrIndex, on(64, 0)}, {api.ErrIndex, on(1<<32, 1)},
	{api.ErrSame, on(0, 0)}, {api.ErrSame, on(1, 1)}, {api.ErrSame, on(2, 2)},
})

// measureFlaws are those of a measurement of qubit 0 into bit 1, resetFlaws those of a reset of qubit 0.
var (
	measureFlaws = slices.Concat(conditionFlaws, []flaw{
		{api.ErrOp, name("h")}, {api.ErrOp, name("foo")}, {api.ErrOp, name(" ")}, {api.ErrOp, kind(api.OpReset)}, {api.ErrOp, kind(api.OpGate)}, {api.ErrOp, kind(0)},
		{api.ErrArity, on()}, {api.ErrArity, on(0, 1)}, {api.ErrArity, on(0, 0)}, {api.ErrArity, on(make([]int, 100000)...)},
		{api.ErrIndex, on(-1)}, {api.ErrIndex, on(3)}, {api.ErrIndex, on(least)}, {api.ErrIndex, on(most)},
		{api.ErrIndex, bit(2)}, {api.ErrIndex, bit(-1)}, {api.ErrIndex, bit(64)}, {api.ErrIndex, bit(least)}, {api.ErrIndex, bit(most)},
	})
	resetFlaws = slices.Concat(conditionFlaws, []flaw{
		{api.ErrOp, name("h")}, {api.ErrOp, name("foo")}, {api.ErrOp, bit(1)}, {api.ErrOp, bit(-1)}, {api.ErrOp, bit(most)}, {api.ErrOp, kind(0)},
		{api.ErrGate, kind(api.OpGate)},
		{api.ErrArity, on()}, {api.ErrArity, on(0, 1)}, {api.ErrArity, on(1, 1)},
		{api.ErrIndex, on(-1)}, {api.ErrIndex, on(3)}, {api.ErrIndex, on(least)}, {api.ErrIndex, on(most)},
	})
)

// flawed are operations of three kinds and their flaws.
var flawed = []struct {
	op    api.Op
	flaws []flaw
}{{gate("cx", 0, 1), gateFlaws}, {measure(0, 1), measureFlaws}, {reset(0), resetFlaws}}

// spoilt is an operation with a flaw. What is handed out is new.
func spoilt(op api.Op, f flaw) api.Op {
	op.Qubits = slices.Clone(op.Qubits)
	f.spoil(&op)
	return op
}

// refused asks that Check tells this number and error, and each other call the error, beside noughts.
func refused(t *testing.T, c api.Circuit, at int, e api.Errno) {
	t.Helper()
	if n, f := circuit.Check(c); n != at || f != e {
		t.Errorf("Check(%v): %d, %d, not %d, %d", few(c), n, f, at, e)
	}
	if n, f := circuit.Halves(c); n != 0 || f != e {
		t.Errorf("Halves(%v): %d, %d", few(c), n, f)
	}
	if b, f := circuit.Clean(c); b || f != e {
		t.Errorf("Clean(%v): %v, %d", few(c), b, f)
	}
	if b, f := circuit.Clifford(c); b || f != e {
		t.Errorf("Clifford(%v): %v, %d", few(c), b, f)
	}
	if l, f := circuit.Layers(c); len(l) != 0 || f != e {
		t.Errorf("Layers(%v): %v, %d", few(c), l, f)
	}
	own := make([]int, len(c.Ops))
	for j := range own {
		own[j] = j
	}
	for _, call := range []func() (api.Circuit, api.Errno){
		func() (api.Circuit, api.Errno) { return circuit.Inverse(c) },
		func() (api.Circuit, api.Errno) { return circuit.Then(c, c) },
		func() (api.Circuit, api.Errno) { return circuit.Then(c, api.Circuit{Qubits: 9}) },
		func() (api.Circuit, api.Errno) { return circuit.Then(api.Circuit{Qubits: 9}, c) },
		func() (api.Circuit, api.Errno) { return circuit.Order(c, own) },
		func() (api.Circuit, api.Errno) { return circuit.Order(c, []int{-1, -1, -1}) },
	} {
		if d, f := call(); !reflect.DeepEqual(d, api.Circuit{}) || f != e {
			t.Errorf("of %v: %v, %d, not %d", few(c), few(d), f, e)
		}
	}
}

// P11.1: each error of an operation by itself, wherever it stands.
func TestEachError(t *testing.T) {
	for _, k := range flawed {
		for j, f := range k.flaws {
			op := spoilt(k.op, f)
			refused(t, of(op), 0, f.e)
			refused(t, of(gate("h", 0), measure(0, 0), op), 2, f.e)
			refused(t, of(measure(1, 1), op, gate("h", 2)), 1, f.e)
			if t.Failed() {
				t.Fatalf("flaw %d of %v", j, k.op)
			}
		}
	}
}

// rank is an error's place in the order of Check's list.
func rank(e api.Errno) int {
	return slices.Index([]api.Errno{api.ErrOp, api.ErrGate, api.ErrArity, api.ErrIndex, api.ErrSame, api.ErrRoots}, e)
}

// P11.1: of two at one operation that is told which stands ahead in the list.
func TestTwoErrors(t *testing.T) {
	for _, c := range []struct {
		op api.Op
		e  api.Errno
	}{
		{api.Op{Kind: api.OpGate, Name: "foo", Qubits: []int{9}, Mask: 1}, api.ErrOp},
		{api.Op{Kind: api.OpGate, Name: "foo", Bit: 9}, api.ErrOp},
		{api.Op{Kind: 9, Name: "foo", Qubits: []int{9, 9}}, api.ErrOp},
		{api.Op{Kind: api.OpGate, Name: "cx", Qubits: []int{0}, Mask: 1}, api.ErrOp},
		{api.Op{Kind: api.OpGate, Name: "cx", Qubits: []int{0, 7}, Value: 1}, api.ErrOp},
		{when(gate("cx", 1, 1), 1, 2), api.ErrOp},
		{api.Op{Kind: api.OpMeasure, Name: "cx", Qubits: []int{0, 1}}, api.ErrOp},
		{api.Op{Kind: api.OpMeasure, Name: "h", Qubits: []int{5}, Bit: 5}, api.ErrOp},
		{api.Op{Kind: api.OpReset, Qubits: []int{5}, Bit: -5}, api.ErrOp},
		{gate("foo"), api.ErrGate},
		{gate("foo", 0, 0), api.ErrGate},
		{gate("foo", 9, -9), api.ErrGate},
		{gate("", 9), api.ErrGate},
		{gate("cx", 9), api.ErrArity},
		{gate("cx", 0, 0, 0), api.ErrArity},
		{gate("cx", -1, 9, 9), api.ErrArity},
		{gate("h", 1, 1), api.ErrArity},
		{api.Op{Kind: api.OpMeasure, Bit: 9}, api.ErrArity},
		{api.Op{Kind: api.OpMeasure, Qubits: []int{1, 1}, Bit: -1}, api.ErrArity},
		{api.Op{Kind: api.OpReset, Qubits: []int{9, 9}}, api.ErrArity},
		{gate("cx", 3, 3), api.ErrIndex},
		{gate("cx", -1, -1), api.ErrIndex},
		{gate("ccx", 0, 0, 3), api.ErrIndex},
		{gate("ccx", -1, 2, 2), api.ErrIndex},
		{gate("cswap", 1, 0, 1), api.ErrSame},
		{gate("cswap", 0, 1, 1), api.ErrSame},
		{gate("ccz", 2, 2, 0), api.ErrSame},
		{gate("ccz", 2, 2, 2), api.ErrSame},
	} {
		refused(t, of(c.op), 0, c.e)
		refused(t, of(gate("h", 0), c.op), 1, c.e)
	}
}

// Each two flaws at one operation, where they touch different fields: the first of the list is told.
func TestFlawsTogether(t *testing.T) {
	count := 0
	for _, k := range flawed {
		for _, f := range k.flaws {
			for _, g := range k.flaws {
				op := spoilt(spoilt(k.op, f), g)
				if other := spoilt(spoilt(k.op, g), f); !sameOp(op, other) || op.Kind != k.op.Kind || op.Name != k.op.Name && len(op.Qubits) != len(k.op.Qubits) {
					continue
				}
				want := f.e
				if rank(g.e) < rank(want) {
					want = g.e
				}
				if at, e := circuit.Check(of(op)); at != 0 || e != want {
					t.Fatalf("Check(%v): %d, %d, not %d", op, at, e, want)
				}
				count++
			}
		}
	}
	if count < 1000 {
		t.Errorf("%d tried alone", count)
	}
}

// P11.1: the first operation at fault is told, whatever the errors of those behind it.
func TestFirstAtFault(t *testing.T) {
	for _, k := range flawed {
		for _, f := range k.flaws {
			first := spoilt(k.op, f)
			for _, other := range []api.Op{gate("cx", 0, 0), {Kind: 9}, gate("foo"), gate("h"), measure(9, 9), gate("h", 0)} {
				if at, e := circuit.Check(of(gate("h", 0), gate("t", 1), first, other)); at != 2 || e != f.e {
					t.Errorf("Check(.., %v, %v): %d, %d", first, other, at, e)
				}
			}
		}
	}
	long := times(4096, gate("x", 0))
	for _, at := range []int{0, 1, 2047, 4094, 4095} {
		c := of(slices.Clone(long)...)
		c.Ops[at] = gate("cx", 1, 1)
		refused(t, c, at, api.ErrSame)
	}
}

// P11.1: numbers of qubits and bits at the limits and beyond them, ahead of all else.
func TestQubitsAndBits(t *testing.T) {
	bad := []api.Op{{Kind: 9}}
	for _, n := range []int{-1, 65, 66, 100, -64, least, most, 1 << 32, -1 << 32} {
		for _, ops := range [][]api.Op{nil, bad, times(4097, gate("x", 0))} {
			refused(t, api.Circuit{Qubits: n, Ops: ops}, 0, api.ErrArg)
			refused(t, api.Circuit{Bits: n, Ops: ops}, 0, api.ErrArg)
			refused(t, api.Circuit{Qubits: n, Bits: 64, Ops: ops}, 0, api.ErrArg)
			refused(t, api.Circuit{Qubits: 64, Bits: n, Ops: ops}, 0, api.ErrArg)
			refused(t, api.Circuit{Qubits: n, Bits: n, Ops: ops}, 0, api.ErrArg)
		}
	}
}

// P11.1: as many operations as can be, and one more, ahead of what is wrong with them.
func TestManyOperations(t *testing.T) {
	if at, e := circuit.Check(of(times(4096, gate("x", 0))...)); at != 0 || e != api.OK {
		t.Errorf("4096: %d, %d", at, e)
	}
	for _, n := range []int{4097, 4098, 10000} {
		refused(t, of(times(n, gate("x", 0))...), 0, api.ErrMany)
		refused(t, of(times(n, gate("foo", 9))...), 0, api.ErrMany)
		refused(t, of(times(n, gate("h", 0))...), 0, api.ErrMany)
	}
	refused(t, api.Circuit{Ops: make([]api.Op, 4097)}, 0, api.ErrMany)
	refused(t, api.Circuit{Ops: make([]api.Op, 4096)}, 0, api.ErrOp)
}

// P11.1: halvings, of each gate that halves, with conditions and without, in between others.
func TestManyHalvings(t *testing.T) {
	for _, op := range []api.Op{gate("h", 0), gate("v", 1), gate("vdg", 2), gate("ch", 1, 2), when(gate("h", 0), 1, 0), when(gate("ch", 2, 0), 3, 3)} {
		if at, e := circuit.Check(of(times(36, op)...)); at != 0 || e != api.OK {
			t.Errorf("36 times %v: %d, %d", op, at, e)
		}
		refused(t, of(times(37, op)...), 36, api.ErrRoots)
		refused(t, of(times(4096, op)...), 36, api.ErrRoots)
		refused(t, of(slices.Concat(times(36, op), []api.Op{gate("t", 0), measure(0, 0), reset(1)}, times(1, op), []api.Op{{}})...), 39, api.ErrRoots)
		refused(t, of(slices.Concat(times(36, op), []api.Op{gate("h", 3)})...), 36, api.ErrIndex)
		refused(t, of(slices.Concat(times(36, op), []api.Op{gate("ch", 0, 0)})...), 36, api.ErrSame)
		refused(t, of(slices.Concat(times(36, op), []api.Op{gate("ch", 0)})...), 36, api.ErrArity)
		refused(t, of(slices.Concat(times(36, op), []api.Op{{Kind: api.OpGate, Name: "h", Qubits: []int{0}, Bit: 1}})...), 36, api.ErrOp)
		refused(t, of(slices.Concat(times(35, op), []api.Op{gate("foo", 0)}, times(5, op))...), 35, api.ErrGate)
	}
	mixed := of()
	for j := range 37 {
		mixed.Ops = append(mixed.Ops, gate("x", 0), gate([]string{"h", "v", "vdg"}[j%3], j%3))
	}
	refused(t, mixed, 73, api.ErrRoots)
	mixed.Ops = mixed.Ops[:73]
	if at, e := circuit.Check(mixed); at != 0 || e != api.OK {
		t.Errorf("36: %d, %d", at, e)
	}
}

// P11.1: a circuit without qubits or without bits has no operation that needs one.
func TestWithoutQubitsOrBits(t *testing.T) {
	none := func(op api.Op) api.Circuit { return api.Circuit{Ops: []api.Op{op}} }
	refused(t, none(gate("x", 0)), 0, api.ErrIndex)
	refused(t, none(reset(0)), 0, api.ErrIndex)
	refused(t, none(measure(0, 0)), 0, api.ErrIndex)
	refused(t, api.Circuit{Qubits: 1, Ops: []api.Op{measure(0, 0)}}, 0, api.ErrIndex)
	refused(t, api.Circuit{Bits: 1, Ops: []api.Op{measure(0, 0)}}, 0, api.ErrIndex)
	refused(t, api.Circuit{Qubits: 1, Ops: []api.Op{when(gate("x", 0), 1, 0)}}, 0, api.ErrOp)
	refused(t, api.Circuit{Qubits: 1, Ops: []api.Op{when(gate("x", 0), 1<<63, 0)}}, 0, api.ErrOp)
	for _, op := range []api.Op{gate("x", 0), reset(0)} {
		if at, e := circuit.Check(api.Circuit{Qubits: 1, Ops: []api.Op{op}}); at != 0 || e != api.OK {
			t.Errorf("%v: %d, %d", op, at, e)
		}
	}
}

// P11.1: of each number of bits and qubits the highest one, and the next.
func TestHighestNumbers(t *testing.T) {
	for n := 1; n <= 64; n++ {
		c := func(op api.Op) api.Circuit { return api.Circuit{Qubits: n, Bits: n, Ops: []api.Op{op}} }
		last := uint64(1) << (n - 1)
		for _, op := range []api.Op{gate("x", n-1), reset(n - 1), measure(n-1, n-1), when(gate("x", 0), last, last), when(gate("x", 0), last, 0), when(reset(0), last|(last-1), last-1), when(measure(0, n-1), last|1, 1)} {
			if at, e := circuit.Check(c(op)); at != 0 || e != api.OK {
				t.Errorf("Check(%v): %d, %d", c(op), at, e)
			}
		}
		refused(t, c(gate("x", n)), 0, api.ErrIndex)
		refused(t, c(reset(n)), 0, api.ErrIndex)
		refused(t, c(measure(n, n-1)), 0, api.ErrIndex)
		refused(t, c(measure(n-1, n)), 0, api.ErrIndex)
		if n < 64 {
			refused(t, c(when(gate("x", 0), last<<1, 0)), 0, api.ErrOp)
			refused(t, c(when(gate("x", 0), last<<1|1, 1)), 0, api.ErrOp)
			refused(t, c(when(gate("x", 0), last, last<<1)), 0, api.ErrOp)
		}
	}
}
