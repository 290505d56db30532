package circuit_test

import (
	"reflect"
	"slices"
	"strings"
	"testing"

	"cubit/api"
	"cubit/circuit"
)

// The functions are as the chapter has them.
var (
	_ func(api.Circuit) (int, api.Errno)                      = circuit.Check
	_ func(api.Circuit) (int, api.Errno)                      = circuit.Halves
	_ func(api.Circuit) (bool, api.Errno)                     = circuit.Clean
	_ func(api.Circuit) (bool, api.Errno)                     = circuit.Clifford
	_ func(api.Circuit) (api.Circuit, api.Errno)              = circuit.Inverse
	_ func(api.Circuit, api.Circuit) (api.Circuit, api.Errno) = circuit.Then
	_ func(api.Circuit) ([][]int, api.Errno)                  = circuit.Layers
	_ func(api.Circuit, []int) (api.Circuit, api.Errno)       = circuit.Order
)

// A fact is what chapter 8 tells of a gate.
type fact struct {
	name          string
	qubits, halve int
	clifford      bool
	back          string
}

// facts are chapter 8's gates, in its order.
var facts = []fact{
	{"i", 1, 0, true, "i"}, {"x", 1, 0, true, "x"}, {"y", 1, 0, true, "y"}, {"z", 1, 0, true, "z"}, {"h", 1, 1, true, "h"},
	{"s", 1, 0, true, "sdg"}, {"sdg", 1, 0, true, "s"}, {"t", 1, 0, false, "tdg"}, {"tdg", 1, 0, false, "t"}, {"v", 1, 1, true, "vdg"}, {"vdg", 1, 1, true, "v"}, {"w", 1, 0, true, "wdg"}, {"wdg", 1, 0, true, "w"},
	{"cx", 2, 0, true, "cx"}, {"cy", 2, 0, true, "cy"}, {"cz", 2, 0, true, "cz"}, {"ch", 2, 1, false, "ch"}, {"cs", 2, 0, false, "csdg"}, {"csdg", 2, 0, false, "cs"},
	{"swap", 2, 0, true, "swap"}, {"iswap", 2, 0, true, "iswapdg"}, {"iswapdg", 2, 0, true, "iswap"},
	{"ccx", 3, 0, false, "ccx"}, {"ccz", 3, 0, false, "ccz"}, {"cswap", 3, 0, false, "cswap"},
}

// factOf is a gate's fact; that of no gate is all nought.
func factOf(name string) fact {
	for _, f := range facts {
		if f.name == name {
			return f
		}
	}
	return fact{}
}

func gate(name string, qubits ...int) api.Op {
	return api.Op{Kind: api.OpGate, Name: name, Qubits: qubits}
}

func measure(qubit, bit int) api.Op {
	return api.Op{Kind: api.OpMeasure, Qubits: []int{qubit}, Bit: bit}
}

func reset(qubit int) api.Op { return api.Op{Kind: api.OpReset, Qubits: []int{qubit}} }

// when is the operation under a condition.
func when(op api.Op, mask, value uint64) api.Op {
	op.If, op.Mask, op.Value = true, mask, value
	return op
}

// of is a circuit of three qubits and two bits.
func of(ops ...api.Op) api.Circuit { return api.Circuit{Qubits: 3, Bits: 2, Ops: ops} }

// times is so many of one operation.
func times(n int, op api.Op) []api.Op { return slices.Repeat([]api.Op{op}, n) }

// same: are these the same circuits? (No list and an empty one are the same.)
func same(a, b api.Circuit) bool {
	return a.Qubits == b.Qubits && a.Bits == b.Bits && slices.EqualFunc(a.Ops, b.Ops, sameOp)
}

func sameOp(x, y api.Op) bool {
	return x.Kind == y.Kind && x.Name == y.Name && slices.Equal(x.Qubits, y.Qubits) && x.Bit == y.Bit && x.If == y.If && x.Mask == y.Mask && x.Value == y.Value
}

// sameLayers: are these the same layers? (No list and an empty one are the same.)
func sameLayers(a, b [][]int) bool { return slices.EqualFunc(a, b, slices.Equal[[]int]) }

// few is a circuit's first operations, for a message.
func few(c api.Circuit) api.Circuit {
	c.Ops = c.Ops[:min(len(c.Ops), 8)]
	return c
}

// taken is what a call must answer with OK.
func taken[V any](t *testing.T, v V, e api.Errno) V {
	t.Helper()
	if e != api.OK {
		t.Fatalf("error %d", e)
	}
	return v
}

func inverse(t *testing.T, c api.Circuit) api.Circuit {
	t.Helper()
	v, e := circuit.Inverse(c)
	return taken(t, v, e)
}

func then(t *testing.T, a, b api.Circuit) api.Circuit {
	t.Helper()
	v, e := circuit.Then(a, b)
	return taken(t, v, e)
}

func order(t *testing.T, c api.Circuit, list []int) api.Circuit {
	t.Helper()
	v, e := circuit.Order(c, list)
	return taken(t, v, e)
}

func layers(t *testing.T, c api.Circuit) [][]int {
	t.Helper()
	v, e := circuit.Layers(c)
	return taken(t, v, e)
}

func halves(t *testing.T, c api.Circuit) int {
	t.Helper()
	v, e := circuit.Halves(c)
	return taken(t, v, e)
}

func TestNumbersOfTheChapter(t *testing.T) {
	if api.ErrArg != 2 || api.ErrGate != 80 || api.ErrArity != 111 || api.ErrIndex != 112 || api.ErrSame != 113 || api.ErrMany != 115 || api.ErrRoots != 116 || api.ErrOp != 120 || api.ErrBack != 121 {
		t.Error("the errors are not the chapter's")
	}
	if api.MaxRows != 64 || api.MaxBits != 64 || api.MaxOps != 4096 || api.MaxHalf != 36 {
		t.Error("the limits are not the document's")
	}
}

// The chapter's examples.
func TestExamples(t *testing.T) {
	two := func(ops ...api.Op) api.Circuit { return api.Circuit{Qubits: 2, Bits: 2, Ops: ops} }
	if l := layers(t, two(gate("h", 0), gate("h", 1), gate("cx", 0, 1), measure(0, 0), when(gate("x", 1), 1, 1))); !sameLayers(l, [][]int{{0, 1}, {2}, {3}, {4}}) {
		t.Errorf("the first one's layers: %v", l)
	}
	if l := layers(t, two(measure(0, 0), measure(1, 1))); !sameLayers(l, [][]int{{0}, {1}}) {
		t.Errorf("two measurements' layers: %v", l)
	}
	if c := inverse(t, two(gate("s", 0), gate("cx", 0, 1))); !same(c, two(gate("cx", 0, 1), gate("sdg", 0))) {
		t.Errorf("Inverse of s, cx: %v", c)
	}
	for _, c := range []struct {
		ops []api.Op
		at  int
		e   api.Errno
	}{
		{[]api.Op{gate("cx", 0, 0)}, 0, api.ErrSame},
		{[]api.Op{gate("cx", 0)}, 0, api.ErrArity},
		{[]api.Op{gate("foo", 0)}, 0, api.ErrGate},
		{[]api.Op{gate("h", 2)}, 0, api.ErrIndex},
		{[]api.Op{{Kind: api.OpGate, Name: "x", Qubits: []int{0}, Mask: 1}}, 0, api.ErrOp},
		{times(37, gate("h", 0)), 36, api.ErrRoots},
	} {
		if at, e := circuit.Check(two(c.ops...)); at != c.at || e != c.e {
			t.Errorf("Check(%v): %d, %d", c.ops, at, e)
		}
	}
	if c := order(t, two(gate("h", 0), gate("h", 1)), []int{1, 0}); !same(c, two(gate("h", 1), gate("h", 0))) {
		t.Errorf("Order of h, h: %v", c)
	}
	if c, e := circuit.Order(two(gate("h", 0), gate("x", 0)), []int{1, 0}); !reflect.DeepEqual(c, api.Circuit{}) || e != api.ErrArg {
		t.Errorf("Order of h, x: %v, %d", c, e)
	}
}

// P11.1: a circuit without operations, with and without qubits and bits, at the limits too.
func TestNoOperations(t *testing.T) {
	for _, qubits := range []int{0, 1, 10, 63, 64} {
		for _, bits := range []int{0, 1, 63, 64} {
			for _, ops := range [][]api.Op{nil, {}} {
				c := api.Circuit{Qubits: qubits, Bits: bits, Ops: ops}
				if at, e := circuit.Check(c); at != 0 || e != api.OK {
					t.Errorf("Check(%v): %d, %d", c, at, e)
				}
				clean, e := circuit.Clean(c)
				clifford, f := circuit.Clifford(c)
				if !clean || !clifford || e != api.OK || f != api.OK || halves(t, c) != 0 {
					t.Errorf("%v: %v, %d; %v, %d", c, clean, e, clifford, f)
				}
				if len(layers(t, c)) != 0 || !same(inverse(t, c), c) || !same(then(t, c, c), c) || !same(order(t, c, nil), c) || !same(order(t, c, []int{}), c) {
					t.Errorf("%v: something comes of nothing", c)
				}
			}
		}
	}
}

// P11.1: each gate by itself, on each list of qubits that it can have, with a condition and without.
func TestEachGate(t *testing.T) {
	lists := [][][]int{{{0}, {1}, {3}}, {{0, 1}, {1, 0}, {3, 1}}, {{0, 1, 2}, {2, 0, 1}, {3, 1, 0}}}
	for _, f := range facts {
		for _, qubits := range lists[f.qubits-1] {
			for _, op := range []api.Op{gate(f.name, qubits...), when(gate(f.name, qubits...), 5, 4)} {
				c := api.Circuit{Qubits: 4, Bits: 3, Ops: []api.Op{op}}
				if at, e := circuit.Check(c); at != 0 || e != api.OK {
					t.Errorf("Check(%v): %d, %d", c, at, e)
				}
				if halves(t, c) != f.halve {
					t.Errorf("Halves(%v): %d", c, halves(t, c))
				}
				if clean, e := circuit.Clean(c); clean == op.If || e != api.OK {
					t.Errorf("Clean(%v): %v, %d", c, clean, e)
				}
				if clifford, e := circuit.Clifford(c); clifford != f.clifford || e != api.OK {
					t.Errorf("Clifford(%v): %v, %d", c, clifford, e)
				}
				want := op
				want.Name = f.back
				if back := inverse(t, c); !same(back, api.Circuit{Qubits: 4, Bits: 3, Ops: []api.Op{want}}) {
					t.Errorf("Inverse(%v): %v", c, back)
				}
				if l := layers(t, c); !sameLayers(l, [][]int{{0}}) {
					t.Errorf("Layers(%v): %v", c, l)
				}
			}
		}
	}
}

// P11.1: which circuits are clean, and which are Clifford's.
func TestCleanAndClifford(t *testing.T) {
	for _, c := range []struct {
		c               api.Circuit
		clean, clifford bool
	}{
		{of(gate("h", 0), gate("cx", 0, 1), gate("t", 2)), true, false},
		{of(gate("h", 0), gate("cx", 0, 1), gate("s", 2)), true, true},
		{of(gate("t", 0), gate("h", 0)), true, false},
		{of(gate("h", 0), measure(0, 0)), false, true},
		{of(measure(0, 0), gate("h", 0)), false, true},
		{of(gate("h", 0), reset(0)), false, true},
		{of(reset(1), gate("ccx", 0, 1, 2)), false, false},
		{of(gate("h", 0), when(gate("x", 0), 1, 0)), false, true},
		{of(when(gate("t", 0), 1, 0), gate("h", 0)), false, false},
		{of(when(measure(0, 0), 3, 3), when(reset(0), 2, 0)), false, true},
		{of(measure(0, 0)), false, true},
	} {
		clean, e := circuit.Clean(c.c)
		clifford, f := circuit.Clifford(c.c)
		if clean != c.clean || clifford != c.clifford || e != api.OK || f != api.OK {
			t.Errorf("%v: %v, %d; %v, %d", c.c, clean, e, clifford, f)
		}
	}
}

// P11.1: halvings, under conditions too, up to the limit.
func TestHalves(t *testing.T) {
	for _, c := range []struct {
		c    api.Circuit
		want int
	}{
		{of(gate("h", 0), gate("ch", 0, 1), gate("t", 0), gate("v", 2)), 3},
		{of(gate("x", 0), measure(0, 0), reset(0)), 0},
		{of(when(gate("h", 0), 1, 0), when(gate("h", 0), 1, 1), when(gate("vdg", 0), 3, 2)), 3},
		{of(times(36, gate("h", 1))...), 36},
		{of(slices.Concat(times(12, gate("v", 0)), times(2000, gate("cswap", 2, 0, 1)), times(12, when(gate("ch", 2, 1), 2, 2)), times(2060, measure(0, 1)), times(12, gate("h", 2)))...), 36},
	} {
		if n := halves(t, c.c); n != c.want {
			t.Errorf("Halves(%v): %d, not %d", few(c.c), n, c.want)
		}
	}
}

// P11.1: Inverse, gates under conditions too.
func TestInverse(t *testing.T) {
	c := of(gate("s", 0), when(gate("cx", 2, 1), 3, 2), gate("t", 2), when(gate("iswap", 1, 2), 1, 0), gate("cswap", 2, 1, 0), gate("h", 1))
	want := of(gate("h", 1), gate("cswap", 2, 1, 0), when(gate("iswapdg", 1, 2), 1, 0), gate("tdg", 2), when(gate("cx", 2, 1), 3, 2), gate("sdg", 0))
	if back := inverse(t, c); !same(back, want) {
		t.Errorf("Inverse: %v", back)
	}
	if again := inverse(t, want); !same(again, c) {
		t.Errorf("and back: %v", again)
	}
}

// P11.1: what is no gate has no way back, wherever it stands and under any condition.
func TestNoWayBack(t *testing.T) {
	for _, op := range []api.Op{measure(0, 0), measure(2, 1), reset(1), when(measure(0, 0), 1, 0), when(reset(0), 3, 3)} {
		for place := range 4 {
			c := of(slices.Insert(times(3, gate("h", 0)), place, op)...)
			if back, e := circuit.Inverse(c); !reflect.DeepEqual(back, api.Circuit{}) || e != api.ErrBack {
				t.Errorf("Inverse(%v): %v, %d", c, back, e)
			}
		}
	}
}

// P11.1: Then, and what it refuses.
func TestThen(t *testing.T) {
	a := of(gate("h", 0), measure(0, 1))
	b := of(when(gate("x", 2), 2, 2), reset(1), gate("cx", 2, 0))
	if c := then(t, a, b); !same(c, of(gate("h", 0), measure(0, 1), when(gate("x", 2), 2, 2), reset(1), gate("cx", 2, 0))) {
		t.Errorf("Then: %v", c)
	}
	if !same(then(t, a, of()), a) || !same(then(t, of(), a), a) || !same(then(t, a, a), of(gate("h", 0), measure(0, 1), gate("h", 0), measure(0, 1))) {
		t.Error("Then with none, or with itself")
	}
	many := times(4096, gate("x", 0))
	roots := times(36, gate("h", 0))
	for _, c := range []struct {
		a, b api.Circuit
		e    api.Errno
	}{
		{api.Circuit{Qubits: 3, Bits: 2}, api.Circuit{Qubits: 2, Bits: 2}, api.ErrArg},
		{api.Circuit{Qubits: 3, Bits: 2}, api.Circuit{Qubits: 3, Bits: 3}, api.ErrArg},
		{api.Circuit{Qubits: 2, Bits: 3}, api.Circuit{Qubits: 3, Bits: 2}, api.ErrArg},
		{api.Circuit{Qubits: 4, Bits: 2, Ops: many}, of(many...), api.ErrArg},
		{of(many...), of(), api.OK},
		{of(), of(many...), api.OK},
		{of(many[:2000]...), of(many[:2096]...), api.OK},
		{of(many[:2000]...), of(many[:2097]...), api.ErrMany},
		{of(many...), of(measure(0, 0)), api.ErrMany},
		{of(many...), of(many...), api.ErrMany},
		{of(roots...), of(), api.OK},
		{of(roots[:18]...), of(roots[:18]...), api.OK},
		{of(roots[:18]...), of(roots[:19]...), api.ErrRoots},
		{of(roots...), of(when(gate("v", 2), 1, 1)), api.ErrRoots},
		{of(roots...), of(roots...), api.ErrRoots},
		{of(slices.Concat(many[:4060], roots)...), of(gate("h", 0)), api.ErrMany},
		{api.Circuit{Qubits: 65}, api.Circuit{Qubits: 65}, api.ErrArg},
		{of(gate("foo", 0)), of(measure(0, 2)), api.ErrGate},
		{of(measure(0, 2)), of(gate("foo", 0)), api.ErrIndex},
		{of(), of(gate("foo", 0)), api.ErrGate},
		{api.Circuit{Qubits: 1}, of(gate("cx", 1, 1)), api.ErrSame},
		{of(gate("cx", 1, 1)), api.Circuit{Qubits: 1}, api.ErrSame},
		{of(roots...), of(gate("h", 3)), api.ErrIndex},
	} {
		d, e := circuit.Then(c.a, c.b)
		if e != c.e || e != api.OK && !reflect.DeepEqual(d, api.Circuit{}) || e == api.OK && !same(d, of(slices.Concat(c.a.Ops, c.b.Ops)...)) {
			t.Errorf("Then(%v, %v): %v, %d", few(c.a), few(c.b), few(d), e)
		}
	}
}

// bonds are two operations, and whether they are bound.
var bonds = []struct {
	a, b  api.Op
	bound bool
}{
	{gate("h", 0), gate("x", 0), true},
	{gate("h", 0), gate("x", 1), false},
	{gate("cx", 0, 1), gate("x", 1), true},
	{gate("ccx", 2, 0, 1), gate("cx", 3, 2), true},
	{gate("cx", 0, 1), gate("cx", 2, 3), false},
	{gate("i", 3), gate("i", 3), true},
	{gate("h", 0), measure(0, 0), true},
	{gate("h", 0), measure(1, 0), false},
	{gate("h", 0), reset(0), true},
	{gate("h", 0), reset(1), false},
	{measure(0, 0), measure(1, 0), true}, // a bit is written and written, and coins
	{measure(0, 0), measure(1, 1), true}, // coins
	{measure(0, 0), reset(1), true},
	{reset(0), reset(1), true},
	{measure(0, 0), when(gate("x", 1), 1, 1), true},  // written and read
	{measure(0, 1), when(gate("x", 1), 1, 1), false}, // another bit
	{measure(0, 63), when(gate("x", 1), 1<<63, 0), true},
	{measure(0, 62), when(gate("x", 1), 1<<63, 0), false},
	{measure(0, 5), when(gate("x", 1), 1<<63|1<<5|1, 1), true},
	{when(gate("x", 0), 1, 1), when(gate("x", 1), 1, 1), false}, // both only read
	{when(gate("x", 0), 3, 1), when(gate("x", 1), 3, 2), false},
	{when(gate("x", 0), 1, 1), when(gate("x", 0), 2, 2), true},
	{when(gate("x", 0), 1, 1), when(reset(1), 1, 1), false}, // one coin alone
	{when(measure(0, 3), 1, 1), when(gate("x", 1), 1, 1), false},
	{when(measure(0, 3), 1, 1), when(gate("x", 1), 8, 0), true}, // what it writes under a condition
	{when(measure(0, 3), 8, 8), gate("x", 1), false},
	{when(measure(0, 3), 8, 8), when(gate("x", 1), 8, 8), true},
	{when(reset(0), 1, 1), when(reset(1), 2, 2), true},
	{when(reset(0), 1, 1), gate("h", 1), false},
}

// P11.1: operations that are bound, and that aren't, either of them ahead.
func TestBonds(t *testing.T) {
	for _, b := range bonds {
		for _, ops := range [][]api.Op{{b.a, b.b}, {b.b, b.a}} {
			c := api.Circuit{Qubits: 4, Bits: 64, Ops: ops}
			want := [][]int{{0, 1}}
			if b.bound {
				want = [][]int{{0}, {1}}
			}
			if l := layers(t, c); !sameLayers(l, want) {
				t.Errorf("Layers(%v): %v", c, l)
			}
			if d := order(t, c, []int{0, 1}); !same(d, c) {
				t.Errorf("Order(%v, 0 1): %v", c, d)
			}
			d, e := circuit.Order(c, []int{1, 0})
			if b.bound && (e != api.ErrArg || !reflect.DeepEqual(d, api.Circuit{})) {
				t.Errorf("Order(%v, 1 0): %v, %d", c, d, e)
			}
			if !b.bound && (e != api.OK || !same(d, api.Circuit{Qubits: 4, Bits: 64, Ops: []api.Op{ops[1], ops[0]}})) {
				t.Errorf("Order(%v, 1 0): %v, %d", c, d, e)
			}
		}
	}
}

// P11.1: layers of longer circuits.
func TestLayers(t *testing.T) {
	reader := func(q int) api.Op { return when(gate("x", q), 1, 1) }
	for _, c := range []struct {
		c    api.Circuit
		want [][]int
	}{
		{of(gate("h", 0), gate("x", 1), gate("z", 0)), [][]int{{0, 1}, {2}}},
		{of(reader(2), measure(0, 0), gate("h", 1)), [][]int{{0, 2}, {1}}},
		{of(gate("h", 0), gate("h", 0), gate("h", 0), gate("x", 1), gate("ccx", 2, 1, 0), gate("x", 2)), [][]int{{0, 3}, {1}, {2}, {4}, {5}}},
		// A reader of a late step and then one of an early step: whoever writes comes behind both.
		{api.Circuit{Qubits: 4, Bits: 1, Ops: []api.Op{gate("h", 0), gate("h", 0), reader(0), reader(1), measure(2, 0), reader(3)}}, [][]int{{0, 3}, {1}, {2}, {4}, {5}}},
		// The first one that is bound is not the last one's neighbour.
		{of(gate("h", 0), gate("h", 1), gate("h", 1), gate("h", 0), gate("cx", 0, 1)), [][]int{{0, 1}, {2, 3}, {4}}},
		{of(gate("h", 0), gate("h", 0), gate("h", 1), gate("cx", 1, 0), gate("h", 2)), [][]int{{0, 2, 4}, {1}, {3}}},
		{of(measure(0, 0), gate("h", 1), reset(2), gate("h", 2), reset(1)), [][]int{{0, 1}, {2}, {3, 4}}},
	} {
		if l := layers(t, c.c); !sameLayers(l, c.want) {
			t.Errorf("Layers(%v): %v, not %v", c.c, l, c.want)
		}
	}
}

// P11.1: as many operations as can be, all bound, none bound, and in between.
func TestLongestCircuits(t *testing.T) {
	chain := api.Circuit{Qubits: 64, Bits: 64, Ops: times(4096, gate("x", 63))}
	wide := api.Circuit{Qubits: 64, Bits: 64}
	for j := range 4096 {
		wide.Ops = append(wide.Ops, when(gate("x", j%64), 1<<63, 0))
	}
	coins := api.Circuit{Qubits: 64, Bits: 64}
	for j := range 4096 {
		coins.Ops = append(coins.Ops, measure(j%64, j/64))
	}
	for _, c := range []struct {
		c    api.Circuit
		want int
	}{{chain, 4096}, {wide, 64}, {coins, 4096}} {
		l := layers(t, c.c)
		if len(l) != c.want {
			t.Errorf("%d layers, not %d", len(l), c.want)
		}
		if d := order(t, c.c, slices.Concat(l...)); !same(d, c.c) {
			t.Errorf("Order by the layers: %v", few(d))
		}
	}
	if back := inverse(t, chain); !same(back, chain) {
		t.Errorf("Inverse: %v", few(back))
	}
	turned := slices.Collect(func(yield func(int) bool) {
		for j := range 4096 {
			if !yield(j/64*64 + 63 - j%64) {
				return
			}
		}
	})
	if d := order(t, wide, turned); d.Ops[0].Qubits[0] != 63 || d.Ops[4095].Qubits[0] != 0 || len(d.Ops) != 4096 {
		t.Errorf("Order: %v", few(d))
	}
}

// P11.1: lists that are no order of the operations.
func TestNoOrders(t *testing.T) {
	c := of(gate("h", 0), gate("x", 1), gate("y", 2))
	for _, list := range [][]int{
		nil, {}, {0}, {0, 1}, {1, 2}, {0, 1, 2, 3}, {0, 1, 2, 2}, {0, 1, 2, 0}, {0, 0, 0}, {0, 0, 2}, {0, 1, 1}, {2, 1, 2},
		{0, 1, 3}, {3, 1, 0}, {-1, 0, 1}, {0, 1, -1}, {1, 2, 3}, {0, 1, least}, {0, most, 1}, {0, 1, 64}, {0, 1, 1 << 32}, make([]int, 5000),
	} {
		if d, e := circuit.Order(c, list); !reflect.DeepEqual(d, api.Circuit{}) || e != api.ErrArg {
			t.Errorf("Order by %v: %v, %d", list, few(d), e)
		}
	}
	for _, list := range [][]int{{0}, {-1}, {0, 1}} {
		if d, e := circuit.Order(of(), list); !reflect.DeepEqual(d, api.Circuit{}) || e != api.ErrArg {
			t.Errorf("Order of none by %v: %v, %d", list, d, e)
		}
	}
	for _, list := range [][]int{{0, 1, 2}, {0, 2, 1}, {1, 0, 2}, {1, 2, 0}, {2, 0, 1}, {2, 1, 0}} {
		d := order(t, c, list)
		if !same(d, of(c.Ops[list[0]], c.Ops[list[1]], c.Ops[list[2]])) {
			t.Errorf("Order by %v: %v", list, d)
		}
	}
}

// Two bound ones that are turned about are found however far they stand from one another.
func TestTurnedAbout(t *testing.T) {
	var ops []api.Op
	for j := range 60 {
		ops = append(ops, gate("x", j))
	}
	for far := range 60 {
		c := api.Circuit{Qubits: 60, Ops: append(slices.Clone(ops), gate("z", far))}
		list := []int{60}
		for j := range 60 {
			list = append(list, j)
		}
		if _, e := circuit.Order(c, list); e != api.ErrArg {
			t.Errorf("z %d ahead of all: %d", far, e)
		}
		list = slices.Delete(list, far+1, far+2)
		list = slices.Insert(list, 0, far)
		if d := order(t, c, list); d.Ops[0].Name != "x" || d.Ops[1].Name != "z" {
			t.Errorf("x %d and z %d ahead of all: %v", far, far, few(d))
		}
	}
}

// A text of a name that is very long, and no gate's, is refused as any other.
func TestLongName(t *testing.T) {
	if at, e := circuit.Check(of(gate("x", 0), gate(strings.Repeat("x", 1<<20), 0))); at != 1 || e != api.ErrGate {
		t.Errorf("%d, %d", at, e)
	}
}
