package path_test

import (
	"slices"
	"sync"
	"testing"

	"cubit/api"
	"cubit/path"
)

// spare is what stands in the room behind lists, and must stay there.
const spare = 77

// roomyList is a list of qubits in memory of its own, with room behind it and marks in it.
func roomyList(list []int) []int {
	return append(append(make([]int, 0, len(list)+2), list...), spare, spare)[:len(list)]
}

// roomy is a circuit in memory of its own, with room behind each of its lists and marks in it.
func roomy(c api.Circuit) api.Circuit {
	ops := make([]api.Op, 0, len(c.Ops)+2)
	for _, op := range c.Ops {
		op.Qubits = roomyList(op.Qubits)
		ops = append(ops, op)
	}
	mark := api.Op{Kind: spare, Name: "spare"}
	c.Ops = append(ops, mark, mark)[:len(ops)]
	return c
}

// sameOp: are these the same operations?
func sameOp(a, b api.Op) bool {
	return a.Kind == b.Kind && a.Name == b.Name && slices.Equal(a.Qubits, b.Qubits) && a.Bit == b.Bit && a.If == b.If && a.Mask == b.Mask && a.Value == b.Value
}

// stays asks that roomy's circuit is as it was, its spare room included.
func stays(t *testing.T, name string, c, want api.Circuit) {
	t.Helper()
	if c.Qubits != want.Qubits || c.Bits != want.Bits || !slices.EqualFunc(c.Ops, want.Ops, sameOp) {
		t.Errorf("%s: %v became %v", name, want, c)
	}
	if room := c.Ops[len(c.Ops):cap(c.Ops)]; len(room) != 2 || room[0].Kind != spare || room[1].Kind != spare {
		t.Errorf("%s: the room behind the operations is changed: %v", name, room)
	}
	for j, op := range c.Ops {
		if room := op.Qubits[len(op.Qubits):cap(op.Qubits)]; !slices.Equal(room, []int{spare, spare}) {
			t.Errorf("%s: the room behind operation %d's qubits is changed: %v", name, j, room)
		}
	}
}

// spoilCircuit writes over all that a circuit's lists hold, with their spare room.
func spoilCircuit(c api.Circuit) {
	for _, op := range c.Ops {
		list := op.Qubits[:cap(op.Qubits)]
		for j := range list {
			list[j] = -9
		}
	}
	ops := c.Ops[:cap(c.Ops)]
	for j := range ops {
		ops[j] = api.Op{Kind: 9, Name: "spoilt"}
	}
}

// spoilState writes over all that a state's list holds, with its spare room.
func spoilState(s api.State) {
	list := s.Amps[:cap(s.Amps)]
	for x := range list {
		list[x] = api.Ring{A: -9, B: 9i}
	}
}

// given are circuits for these tests, those that are refused among them.
func given() []api.Circuit {
	s := source(21)
	list := []api.Circuit{
		circuitOf(0), circuitOf(1), circuitOf(3), circuitOf(11, op("h", 10)),
		circuitOf(1, op("h", 0), op("h", 0)),
		two(op("h", 0), measure(0, 0)), two(reset(1)), two(when(op("cx", 1, 0), 1, 1)),
		two(op("none", 0)), two(op("cx", 0, 0)), circuitOf(1, times(17, op("h", 0))...),
	}
	for j := range 40 {
		list = append(list, s.circuit(j%6, 20, 8))
	}
	return list
}

// An answer is what all three calls tell of a circuit from 0 (to 0), the state in memory of the tests' own.
type answer struct {
	a       api.Amp
	s       api.State
	n       int
	e, f, g api.Errno
}

func ask(c api.Circuit) answer {
	var z answer
	z.a, z.e = path.Amp(c, 0, 0)
	z.s, z.f = path.State(c, 0)
	z.s.Amps = slices.Clone(z.s.Amps)
	z.n, z.g = path.Count(c)
	return z
}

func sameAnswer(a, b answer) bool {
	return sameAmp(a.a, b.a) && same(a.s, b.s) && a.n == b.n && a.e == b.e && a.f == b.f && a.g == b.g
}

// Rule 5: a circuit that is handed in stays, with the room behind its lists, whether it is taken or refused.
func TestCircuitsStay(t *testing.T) {
	for _, c := range given() {
		mine := roomy(c)
		path.Amp(mine, 0, 0)
		stays(t, "Amp", mine, c)
		path.Amp(mine, 1, 1<<40)
		stays(t, "Amp", mine, c)
		path.State(mine, 0)
		stays(t, "State", mine, c)
		path.State(mine, 1<<40)
		stays(t, "State", mine, c)
		path.Count(mine)
		stays(t, "Count", mine, c)
	}
}

// Rule 5: a circuit that is handed in isn't kept: what was answered stays, and is answered again, whatever becomes of it.
func TestCircuitsAreNotKept(t *testing.T) {
	for _, c := range given() {
		want := ask(roomy(c))
		mine := roomy(c)
		got := ask(mine)
		spoilCircuit(mine)
		if !sameAnswer(got, want) || !sameAnswer(ask(roomy(c)), want) {
			t.Errorf("%v: another answer behind a change of the circuit", c)
		}
		if len(c.Ops) > 0 {
			refuse(t, mine, api.ErrOp)
		}
	}
}

// Rule 5: what State answers is the caller's own, and new at each call.
func TestStatesAreTheCallers(t *testing.T) {
	for _, c := range given() {
		want := ask(c)
		first, e := path.State(c, 0)
		second, f := path.State(c, 0)
		if e != f || !same(first, second) {
			t.Fatalf("%v: %v, %d and then %v, %d", c, few(first), e, few(second), f)
		}
		spoilState(first)
		if !same(second, want.s) {
			t.Errorf("%v: two answers share memory", c)
		}
		if !sameAnswer(ask(c), want) {
			t.Errorf("%v: another answer behind a change of an answer", c)
		}
	}
}

// Rule 6: nothing is kept from call to call: in whatever order circuits are asked, each answers as it does by itself.
func TestNothingIsKept(t *testing.T) {
	list := given()
	var want []answer
	for _, c := range list {
		want = append(want, ask(c))
	}
	s := source(22)
	for range 500 {
		j := s.below(len(list))
		if !sameAnswer(ask(list[j]), want[j]) {
			t.Fatalf("%v: another answer than before", list[j])
		}
	}
}

// Rule 6: so calls may go on at the same time.
func TestAtTheSameTime(t *testing.T) {
	list := given()
	var want []answer
	for _, c := range list {
		want = append(want, ask(c))
	}
	var all sync.WaitGroup
	for first := range 8 {
		all.Go(func() {
			for j := range list {
				j = (j + 6*first) % len(list)
				if !sameAnswer(ask(list[j]), want[j]) {
					t.Errorf("%v: another answer than by itself", list[j])
				}
			}
		})
	}
	all.Wait()
}
