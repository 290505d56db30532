package dense_test

import (
	"slices"
	"testing"

	"cubit/api"
	"cubit/dense"
)

// spare is what stands in the room behind lists, and must stay there.
const spare = 77

var behind = api.Ring{A: spare, B: spare}

// roomy is a state in memory of its own, with room behind its list and marks in it.
func roomy(s api.State) api.State {
	list := append(make([]api.Ring, 0, len(s.Amps)+2), s.Amps...)
	s.Amps = append(list, behind, behind)[:len(list)]
	return s
}

// stays asks that roomy's state is as it was, its spare room included.
func stays(t *testing.T, name string, s, want api.State) {
	t.Helper()
	if !same(s, want) {
		t.Errorf("%s: %v became %v", name, few(want), few(s))
	}
	if room := s.Amps[len(s.Amps):cap(s.Amps)]; len(room) != 2 || room[0] != behind || room[1] != behind {
		t.Errorf("%s: the room behind the elements is changed: %v", name, room)
	}
}

// roomyList is a list of numbers with room behind it and marks in it.
func roomyList(list []int) []int {
	return append(append(make([]int, 0, len(list)+2), list...), spare, spare)[:len(list)]
}

func listStays(t *testing.T, name string, list, want []int) {
	t.Helper()
	if !slices.Equal(list, want) || !slices.Equal(list[len(list):cap(list)], []int{spare, spare}) {
		t.Errorf("%s: the list %v became %v, with %v behind it", name, want, list, list[len(list):cap(list)])
	}
}

// roomyCircuit is a circuit with room behind each of its lists.
func roomyCircuit(c api.Circuit) api.Circuit {
	ops := make([]api.Op, 0, len(c.Ops)+2)
	for _, op := range c.Ops {
		op.Qubits = roomyList(op.Qubits)
		ops = append(ops, op)
	}
	c.Ops = append(ops, api.Op{Kind: spare}, api.Op{Kind: spare})[:len(ops)]
	return c
}

func circuitStays(t *testing.T, c, want api.Circuit) {
	t.Helper()
	if c.Qubits != want.Qubits || c.Bits != want.Bits || len(c.Ops) != len(want.Ops) {
		t.Fatalf("%v became %v", want, c)
	}
	for j, op := range c.Ops {
		w := want.Ops[j]
		listStays(t, "Run", op.Qubits, w.Qubits)
		if op.Kind != w.Kind || op.Name != w.Name || op.Bit != w.Bit || op.If != w.If || op.Mask != w.Mask || op.Value != w.Value {
			t.Errorf("%v became %v", w, op)
		}
	}
	if room := c.Ops[len(c.Ops):cap(c.Ops)]; len(room) != 2 || room[0].Kind != spare || room[1].Kind != spare {
		t.Errorf("the room behind the operations is changed: %v", room)
	}
}

// spoil writes over all that a state's list holds, with its spare room.
func spoil(s api.State) {
	list := s.Amps[:cap(s.Amps)]
	for x := range list {
		list[x] = api.Ring{A: -9, B: 9i}
	}
}

// A call is one that answers a state.
type call struct {
	name string
	do   func(api.State) (api.State, api.Errno)
}

// calls are those that take a state and answer one. Some leave it as it is.
func calls() []call {
	list := []call{
		{"Project onto 0", func(s api.State) (api.State, api.Errno) { return dense.Project(s, 0, 0) }},
		{"Project onto 1", func(s api.State) (api.State, api.Errno) { return dense.Project(s, 1, 1) }},
		{"Run of nothing", func(s api.State) (api.State, api.Errno) { return dense.Run(s, circuitOf(s.N)) }},
		{"Run of i", func(s api.State) (api.State, api.Errno) { return dense.Run(s, circuitOf(s.N, op("i", 0))) }},
		{"Run", func(s api.State) (api.State, api.Errno) {
			return dense.Run(s, circuitOf(s.N, op("h", 0), op("cx", 0, 1), op("t", 1), op("v", 0)))
		}},
	}
	for _, f := range facts {
		list = append(list, call{f.name, func(s api.State) (api.State, api.Errno) {
			return dense.Apply(s, f.name, []int{1, 0, 2}[:f.qubits])
		}})
	}
	return list
}

// given are states for these tests: some that are taken, and some that are refused.
func given(t *testing.T) []api.State {
	s := source(41)
	list := []api.State{
		zero(t, 3), basis(t, 3, 7), basis(t, 3, 2), {N: 3, Amps: make([]api.Ring, 8)}, apply(t, zero(t, 3), "h", 0), basis(t, 10, 1000),
		numbers(60, 1, 0, 0, 0, 0, 0, 0, 0), numbers(0, top, top, 0, 0, 0, 0, 0, 0), numbers(0, 1<<52+1i*(1<<52), 0, 0, 0, 0, 0, 0, 0),
		numbers(3, 1, 2, 2, 2, 4, 2, 2, 2), // a part of it can be halved
		numbers(1, 2, 0, 0, 0, 0, 0, 0, 0), numbers(0, 0.5, 0, 0, 0, 0, 0, 0, 0), zero(t, 0), zero(t, 1), {},
	}
	for j := range 20 {
		list = append(list, s.state(3+j%2, 1+2*j, 3*j))
	}
	return list
}

// Rule 5: states that are handed in stay, with the room behind them.
func TestStatesStay(t *testing.T) {
	for _, s := range given(t) {
		mine, other := roomy(s), roomy(s)
		dense.Check(mine)
		dense.Weight(mine)
		dense.Phase(mine, other)
		dense.Phase(mine, mine)
		for q := -1; q <= s.N; q++ {
			dense.Weights(mine, q)
			for bit := -1; bit <= 2; bit++ {
				dense.Project(mine, q, bit)
			}
		}
		for x := range uint64(len(s.Amps) + 1) {
			dense.Amp(mine, x)
		}
		stays(t, "what is told of a state", mine, s)
		stays(t, "Phase", other, s)
		for _, c := range calls() {
			c.do(mine)
			stays(t, c.name, mine, s)
		}
	}
}

// Rule 5: so do lists of qubits.
func TestQubitsStay(t *testing.T) {
	for _, s := range given(t) {
		for _, list := range [][]int{nil, {0}, {2}, {1, 0}, {0, 0}, {2, 0, 1}, {0, 1, 1}, {-1, 5, 5}, {3, 2, 1, 0}} {
			for _, f := range append(slices.Clone(facts), fact{name: "none"}) {
				mine := roomyList(list)
				dense.Apply(s, f.name, mine)
				listStays(t, f.name, mine, list)
			}
		}
	}
}

// Rule 5: so do circuits.
func TestCircuitsStay(t *testing.T) {
	r := source(42)
	list := []api.Circuit{circuitOf(3), circuitOf(3, op("h", 0), op("ccx", 2, 0, 1)), circuitOf(3, op("none", 1)), circuitOf(3, reset(0)), circuitOf(2, op("x", 1)), circuitOf(3, op("cx", 1, 1))}
	for range 10 {
		list = append(list, r.circuit(3, 20, 36))
	}
	for _, s := range given(t) {
		for _, c := range list {
			mine, state := roomyCircuit(c), roomy(s)
			dense.Run(state, mine)
			circuitStays(t, mine, c)
			stays(t, "Run", state, s)
		}
	}
}

// Rule 5: a state that is answered is the caller's own: new at each call, and nothing that was handed in.
func TestStatesAreTheCallers(t *testing.T) {
	tried := 0
	for _, s := range given(t) {
		for _, c := range calls() {
			mine := roomy(s)
			first, e := c.do(mine)
			second, f := c.do(mine)
			if e != f || !same(first, second) {
				t.Errorf("%s tells %d, and then %d", c.name, e, f)
			}
			if e != api.OK {
				continue
			}
			tried++
			want := roomy(second)
			spoil(first)
			stays(t, c.name, mine, s)
			if !same(second, want) {
				t.Errorf("%s: two answers share memory", c.name)
			}
			if again, _ := c.do(mine); !same(again, want) {
				t.Errorf("%s: behind a spoilt answer comes %v", c.name, few(again))
			}
			spoil(mine)
			if !same(second, want) {
				t.Errorf("%s: the answer shares memory with what was handed in", c.name)
			}
		}
	}
	if tried < 500 {
		t.Errorf("%d tried alone", tried)
	}
}

// Rule 5: so are Zero and Basis.
func TestBasisStatesAreTheCallers(t *testing.T) {
	for n := range 11 {
		one, other := zero(t, n), zero(t, n)
		spoil(one)
		if want := basis(t, n, 0); !same(other, want) || !same(zero(t, n), want) {
			t.Errorf("two answers of Zero(%d) share memory", n)
		}
		one, other = basis(t, n, 1<<n-1), basis(t, n, 1<<n-1)
		want := roomy(other)
		spoil(one)
		if !same(other, want) || !same(basis(t, n, 1<<n-1), want) {
			t.Errorf("two answers of Basis(%d) share memory", n)
		}
	}
}

// Rule 6: nothing is kept from call to call, what was refused neither.
func TestNothingIsKept(t *testing.T) {
	pair := numbers(1, 1, 0, 0, 1)
	for _, s := range given(t) {
		for _, c := range calls() {
			c.do(s)
			if z := apply(t, apply(t, zero(t, 2), "h", 0), "cx", 0, 1); !same(z, pair) {
				t.Fatalf("behind %s of %v comes %v", c.name, few(s), z)
			}
		}
	}
}
