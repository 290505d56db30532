package circuit_test

import (
	"slices"
	"strings"
	"testing"
	"unsafe"

	"cubit/api"
	"cubit/circuit"
)

// spare is what stands in the room behind lists, and must stay there.
const spare = 77

var behind = api.Op{Kind: spare, Name: "behind", Qubits: []int{spare}, Bit: spare, If: true, Mask: spare, Value: spare}

// roomy is a circuit in memory of its own, with room behind each list and marks in it.
func roomy(c api.Circuit) api.Circuit {
	ops := make([]api.Op, 0, len(c.Ops)+2)
	for _, op := range c.Ops {
		op.Name = strings.Clone(op.Name)
		op.Qubits = append(append(make([]int, 0, len(op.Qubits)+2), op.Qubits...), spare, spare)[:len(op.Qubits)]
		ops = append(ops, op)
	}
	c.Ops = append(ops, behind, behind)[:len(ops)]
	return c
}

// stays asks that roomy's circuit is as it was, its spare room included.
func stays(t *testing.T, c, want api.Circuit) {
	t.Helper()
	if !same(c, want) {
		t.Errorf("%v became %v", few(want), few(c))
	}
	for _, op := range c.Ops {
		if !slices.Equal(op.Qubits[len(op.Qubits):cap(op.Qubits)], []int{spare, spare}) {
			t.Errorf("the room behind the Qubits of %v is changed", op)
		}
	}
	if room := c.Ops[len(c.Ops):cap(c.Ops)]; len(room) != 2 || !sameOp(room[0], behind) || !sameOp(room[1], behind) {
		t.Errorf("the room behind the Ops is changed: %v", room)
	}
}

// spoilAll writes over all that a circuit's lists hold, with their spare room.
func spoilAll(c api.Circuit) {
	for _, op := range c.Ops {
		spoilList(op.Qubits)
	}
	ops := c.Ops[:cap(c.Ops)]
	for j := range ops {
		ops[j] = api.Op{Kind: -9, Name: "spoilt", Bit: -9, If: true, Mask: 9, Value: 9}
	}
}

func spoilList(list []int) {
	list = list[:cap(list)]
	for j := range list {
		list[j] = -9
	}
}

// given are circuits for these tests: some that are taken, and some that are refused.
func given() []api.Circuit {
	s := source(21)
	list := []api.Circuit{
		of(), of(gate("h", 0), gate("s", 1), gate("cx", 2, 0), when(gate("ccx", 0, 1, 2), 3, 1)), of(gate("h", 0), measure(0, 1), when(gate("x", 2), 2, 2), reset(1)),
		of(gate("foo", 0)), of(gate("cx", 0, 0)), of(gate("h", 0), gate("h", 9)), of(times(37, gate("h", 0))...), of(times(4097, gate("x", 0))...), of(times(4096, gate("x", 0))...), of(times(36, gate("h", 0))...), {Qubits: 65, Ops: times(2, gate("x", 0))},
	}
	for j := range 30 {
		list = append(list, s.small(j, j%2 == 0))
	}
	return list
}

// orders are lists of some numbers for a circuit: its own order, that of its layers, and two that are none.
func orders(c api.Circuit) [][]int {
	own := make([]int, len(c.Ops))
	for j := range own {
		own[j] = j
	}
	l, _ := circuit.Layers(c)
	turned := slices.Clone(own)
	slices.Reverse(turned)
	return [][]int{own, slices.Concat(l...), turned, make([]int, len(own)), {0, 0}}
}

// Rule 5: the circuits and lists that are handed in stay, with their Ops and Qubits and the room behind them.
func TestHandedInStays(t *testing.T) {
	for _, c := range given() {
		mine, other := roomy(c), roomy(c)
		circuit.Check(mine)
		circuit.Halves(mine)
		circuit.Clean(mine)
		circuit.Clifford(mine)
		circuit.Inverse(mine)
		circuit.Layers(mine)
		circuit.Then(mine, other)
		circuit.Then(other, mine)
		circuit.Then(mine, mine)
		for _, list := range orders(c) {
			room := append(slices.Clone(list), spare, spare)
			circuit.Order(mine, room[:len(list)])
			if !slices.Equal(room[:len(list)], list) || room[len(list)] != spare || room[len(list)+1] != spare {
				t.Errorf("Order changed the list %v", list)
			}
		}
		stays(t, mine, c)
		stays(t, other, c)
	}
}

// calls are those that answer circuits.
func calls() map[string]func(api.Circuit) (api.Circuit, api.Errno) {
	return map[string]func(api.Circuit) (api.Circuit, api.Errno){
		"Inverse":         circuit.Inverse,
		"Then with none":  func(c api.Circuit) (api.Circuit, api.Errno) { return circuit.Then(c, of()) },
		"Then behind one": func(c api.Circuit) (api.Circuit, api.Errno) { return circuit.Then(of(gate("x", 0)), c) },
		"Then of itself":  func(c api.Circuit) (api.Circuit, api.Errno) { return circuit.Then(c, c) },
		"Order":           func(c api.Circuit) (api.Circuit, api.Errno) { return circuit.Order(c, orders(c)[0]) },
		"Order by layers": func(c api.Circuit) (api.Circuit, api.Errno) { return circuit.Order(c, orders(c)[1]) },
	}
}

// Rule 5: a circuit that is answered is the caller's own: new at each call, and nothing that was handed in.
func TestCircuitsAreTheCallers(t *testing.T) {
	tried := 0
	for _, c := range given() {
		for name, call := range calls() {
			mine := roomy(c)
			first, e := call(mine)
			second, f := call(mine)
			if e != f || !same(first, second) {
				t.Errorf("%s tells %d, and then %d", name, e, f)
			}
			if e != api.OK {
				continue
			}
			tried++
			want := roomy(second)
			spoilAll(first)
			stays(t, mine, c)
			if !same(second, want) {
				t.Errorf("%s: two answers share memory", name)
			}
			if again, _ := call(mine); !same(again, want) {
				t.Errorf("%s: behind a spoilt answer comes %v", name, few(again))
			}
			spoilAll(mine)
			if !same(second, want) {
				t.Errorf("%s: the answer shares memory with what was handed in", name)
			}
		}
	}
	if tried < 100 {
		t.Errorf("%d tried alone", tried)
	}
}

// Rule 5: no two lists of one answer share memory, also where what was handed in shares it.
func TestListsAreApart(t *testing.T) {
	shared := []int{2, 1, 0}
	c := of(gate("ccx", shared...), gate("cx", shared[:2]...), gate("s", shared[1:2]...), gate("x", shared[:1]...), gate("cx", shared[:2]...), when(gate("ccz", shared...), 1, 1))
	for name, call := range calls() {
		for j := range c.Ops {
			d, e := call(c)
			want := roomy(d)
			spoilList(d.Ops[j].Qubits)
			d.Ops[j].Qubits, want.Ops[j].Qubits = nil, nil
			if e != api.OK || !same(d, want) {
				t.Errorf("%s: the Qubits of operation %d are not its own: %v", name, j, d)
			}
		}
	}
}

// Rule 5: so are layers.
func TestLayersAreTheCallers(t *testing.T) {
	for _, c := range given() {
		first, e := circuit.Layers(c)
		second, _ := circuit.Layers(c)
		if e != api.OK || len(c.Ops) > 100 {
			continue
		}
		want := steps(c)
		for j := range first {
			part, _ := circuit.Layers(c)
			spoilList(part[j])
			part[j] = want[j]
			if !sameLayers(part, want) {
				t.Errorf("layer %d shares memory with others: %v", j, part)
			}
			spoilList(first[j])
		}
		for j := range first[:cap(first)] {
			first[:cap(first)][j] = nil
		}
		again, _ := circuit.Layers(c)
		if !sameLayers(second, want) || !sameLayers(again, want) {
			t.Errorf("two answers share memory: %v, %v", second, again)
		}
	}
}

// within: does s stand in the memory of text?
func within(s, text string) bool {
	begin, at := uintptr(unsafe.Pointer(unsafe.StringData(text))), uintptr(unsafe.Pointer(unsafe.StringData(s)))
	return len(s) > 0 && len(text) > 0 && begin <= at && at < begin+uintptr(len(text))
}

// Rule 5: the names of an answer are no pieces of what was handed in.
func TestNamesAreNoPieces(t *testing.T) {
	text := strings.Clone("h cx ccx tdg iswap")
	var ops []api.Op
	for _, name := range strings.Fields(text) {
		ops = append(ops, gate(name, []int{0, 1, 2}[:factOf(name).qubits]...))
	}
	for name, call := range calls() {
		d, e := call(of(ops...))
		if e != api.OK || len(d.Ops) == 0 {
			t.Errorf("%s: %d", name, e)
		}
		for _, op := range d.Ops {
			if within(op.Name, text) {
				t.Errorf("%s: the Name of %v is a piece of what was handed in", name, op)
			}
		}
	}
}

// Rule 6: nothing is kept from call to call.
func TestNothingIsKept(t *testing.T) {
	c := of(gate("h", 0), gate("cx", 0, 1), measure(0, 0), when(gate("x", 1), 1, 1))
	wanted := layers(t, c)
	for _, other := range given() {
		circuit.Check(other)
		circuit.Halves(other)
		circuit.Inverse(other)
		circuit.Layers(other)
		circuit.Order(other, orders(other)[2])
		circuit.Then(other, c)
		if at, e := circuit.Check(c); at != 0 || e != api.OK || halves(t, c) != 1 || !sameLayers(layers(t, c), wanted) {
			t.Errorf("behind %v the answer is another", few(other))
		}
	}
}
