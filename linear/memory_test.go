package linear_test

import (
	"slices"
	"testing"

	"cubit/api"
	"cubit/linear"
)

// spare is what stands in the room behind lists, and must stay there.
const spare = 77

func spareOp() api.Op { return api.Op{Kind: spare, Name: "spare", Bit: spare} }

// roomy is a list in memory of its own, with room behind it and marks in it.
func roomy[V any](list []V, mark V) []V {
	return append(append(make([]V, 0, len(list)+2), list...), mark, mark)[:len(list)]
}

func roomyMatrix(m api.Linear) api.Linear { return api.Linear{N: m.N, Rows: roomy(m.Rows, spare)} }

func roomyCircuit(c api.Circuit) api.Circuit {
	c.Ops = roomy(c.Ops, spareOp())
	for j := range c.Ops {
		c.Ops[j].Qubits = roomy(c.Ops[j].Qubits, spare)
	}
	return c
}

// matrixStays asks that roomyMatrix's matrix is as it was, its spare room included.
func matrixStays(t *testing.T, what string, m, want api.Linear) {
	t.Helper()
	if !same(m, want) || !slices.Equal(m.Rows[len(m.Rows):cap(m.Rows)], []uint64{spare, spare}) {
		t.Fatalf("%s: %v became %v", what, want, m.Rows[:cap(m.Rows)])
	}
}

// circuitStays asks that roomyCircuit's circuit is as it was, its spare room included.
func circuitStays(t *testing.T, c, want api.Circuit) {
	t.Helper()
	if !equal(c, want) || !slices.EqualFunc(c.Ops[len(c.Ops):cap(c.Ops)], []api.Op{spareOp(), spareOp()}, equalOp) {
		t.Fatalf("From: %v became %v", want, c)
	}
	for _, op := range c.Ops {
		if room := op.Qubits[len(op.Qubits):cap(op.Qubits)]; !slices.Equal(room, []int{spare, spare}) {
			t.Fatalf("From: the room behind the qubits is changed: %v", room)
		}
	}
}

// spoil writes over all that a matrix holds, with its spare room.
func spoil(m api.Linear) {
	list := m.Rows[:cap(m.Rows)]
	for j := range list {
		list[j] = 1<<63 | 9
	}
}

// spoilCircuit does so of a circuit.
func spoilCircuit(c api.Circuit) {
	list := c.Ops[:cap(c.Ops)]
	for j := range list {
		qubits := list[j].Qubits[:cap(list[j].Qubits)]
		for k := range qubits {
			qubits[k] = -9
		}
		list[j] = api.Op{Kind: -9, Name: "spoilt"}
	}
}

// copied is a circuit in memory of its own.
func copied(c api.Circuit) api.Circuit {
	c.Ops = slices.Clone(c.Ops)
	for j := range c.Ops {
		c.Ops[j].Qubits = slices.Clone(c.Ops[j].Qubits)
	}
	return c
}

// given are matrices for these tests: such as have a way back, such as have none, and such as are refused. Eye is among them, of which no row is changed on any way.
func given() []api.Linear {
	s := source(51)
	list := slices.Concat(right(), wrong())
	for _, n := range sizes() {
		list = append(list, eye(n), s.ranked(n, n), s.ranked(n, n), s.ranked(n, n/2), s.any(n))
	}
	return list
}

// calls are those that answer a matrix, of a matrix.
var calls = map[string]func(api.Linear) api.Linear{
	"Mul with itself":   func(m api.Linear) api.Linear { r, _ := linear.Mul(m, m); return r },
	"Mul with Eye":      func(m api.Linear) api.Linear { r, _ := linear.Mul(m, eye(min(64, len(m.Rows)))); return r },
	"Mul of Eye and it": func(m api.Linear) api.Linear { r, _ := linear.Mul(eye(min(64, len(m.Rows))), m); return r },
	"Mul with 0":        func(m api.Linear) api.Linear { r, _ := linear.Mul(m, matrix(0)); return r },
	"Inverse":           func(m api.Linear) api.Linear { r, _ := linear.Inverse(m); return r },
	"Eye of as many":    func(m api.Linear) api.Linear { r, _ := linear.Eye(m.N); return r },
	"From of Synth":     func(m api.Linear) api.Linear { c, _ := linear.Synth(m); r, _ := linear.From(c); return r },
}

// Rule 5: matrices that are handed in stay, with the room behind their rows, whether they are taken or refused.
func TestMatricesStay(t *testing.T) {
	for _, m := range given() {
		mine := roomyMatrix(m)
		linear.Check(mine)
		matrixStays(t, "Check", mine, m)
		linear.Rank(mine)
		matrixStays(t, "Rank", mine, m)
		linear.Apply(mine, 1)
		matrixStays(t, "Apply", mine, m)
		linear.Synth(mine)
		matrixStays(t, "Synth", mine, m)
		for name, call := range calls {
			call(mine)
			matrixStays(t, name, mine, m)
		}
		for _, other := range given() {
			yours := roomyMatrix(other)
			linear.Mul(mine, yours)
			matrixStays(t, "Mul", mine, m)
			matrixStays(t, "Mul", yours, other)
		}
	}
}

// Rule 5: answers share no memory with what was handed in, nor with one another.
func TestMatricesAreTheCallers(t *testing.T) {
	for name, call := range calls {
		for _, m := range given() {
			mine := roomyMatrix(m)
			first, second := call(mine), call(mine)
			want := api.Linear{N: first.N, Rows: slices.Clone(first.Rows)}
			spoil(first)
			matrixStays(t, name, mine, m)
			if !same(second, want) {
				t.Fatalf("%s of %v: two answers share memory", name, m)
			}
			spoil(mine)
			if !same(second, want) {
				t.Fatalf("%s of %v: the answer shares memory with the matrix", name, m)
			}
		}
	}
}

// Rule 5: circuits that From is handed stay, and its answers share no memory.
func TestCircuitsStay(t *testing.T) {
	s := source(52)
	list := []api.Circuit{{}, on(2, "h0"), on(2, "cx00"), on(2, "cx01", "cx0"), {Qubits: 2, Bits: 1, Ops: []api.Op{when(gate("swap", 1, 0), 1, 1)}}}
	for _, n := range sizes() {
		list = append(list, s.circuit(n, 20), s.circuit(n, 0))
	}
	for _, c := range list {
		mine := roomyCircuit(c)
		first, _ := linear.From(mine)
		second, _ := linear.From(mine)
		circuitStays(t, mine, c)
		want := api.Linear{N: first.N, Rows: slices.Clone(first.Rows)}
		spoil(first)
		spoilCircuit(mine)
		if !same(second, want) {
			t.Fatalf("From(%v): two answers share memory", c)
		}
	}
}

// Rule 5: Synth's circuits share no memory, nor do any two lists of one of them, the room behind them included.
func TestSynthsListsAreTheCallers(t *testing.T) {
	s := source(53)
	for n := range 12 {
		m := s.ranked(n, n)
		first, second := synth(t, m), synth(t, m)
		want := copied(first)
		for j, op := range first.Ops {
			list := op.Qubits[:cap(op.Qubits)]
			for k := range list {
				list[k] = -9
			}
			for k, other := range first.Ops {
				if k != j && !equalOp(other, want.Ops[k]) {
					t.Fatalf("Synth(%v): the lists of operations %d and %d share memory", m, j, k)
				}
			}
			copy(op.Qubits, want.Ops[j].Qubits)
		}
		spoilCircuit(first)
		if !equal(second, want) {
			t.Fatalf("Synth(%v): two answers share memory", m)
		}
	}
}

// Rule 6: nothing is kept from call to call.
func TestNothingIsKept(t *testing.T) {
	list := given()
	names := []string{"Mul with itself", "Inverse", "Eye of as many", "From of Synth"}
	var first []api.Linear
	for _, m := range list {
		for _, name := range names {
			first = append(first, calls[name](m))
		}
	}
	for j := len(list) - 1; j >= 0; j-- {
		for k, name := range names {
			if !same(calls[name](list[j]), first[j*len(names)+k]) {
				t.Fatalf("%s of %v: another answer, called again", name, list[j])
			}
		}
	}
}
