package opt_test

import (
	"slices"
	"testing"

	"cubit/api"
	"cubit/opt"
)

// spare is what stands in the room behind lists, and must stay there.
const spare = 77

func behindOps() api.Op { return api.Op{Kind: spare, Name: "spare", Bit: spare} }

// roomy is a circuit in memory of its own, with room behind its lists and marks in it.
func roomy(c api.Circuit) api.Circuit {
	list := make([]api.Op, 0, len(c.Ops)+2)
	for _, o := range c.Ops {
		o.Qubits = append(append(make([]int, 0, len(o.Qubits)+2), o.Qubits...), spare, spare)[:len(o.Qubits)]
		list = append(list, o)
	}
	c.Ops = append(list, behindOps(), behindOps())[:len(list)]
	return c
}

// stays asks that roomy's circuit is as it was, its spare room included.
func stays(t *testing.T, what string, c, want api.Circuit) {
	t.Helper()
	if !same(c, want) {
		t.Fatalf("%s: %s became %s", what, few(want), few(c))
	}
	for _, o := range c.Ops {
		if room := o.Qubits[len(o.Qubits):cap(o.Qubits)]; !slices.Equal(room, []int{spare, spare}) {
			t.Fatalf("%s of %s: the room behind the qubits is changed: %v", what, few(want), room)
		}
	}
	room := c.Ops[len(c.Ops):cap(c.Ops)]
	if len(room) != 2 || !sameOp(room[0], behindOps()) || !sameOp(room[1], behindOps()) {
		t.Fatalf("%s of %s: the room behind the operations is changed: %v", what, few(want), room)
	}
}

// spoil writes over all that a circuit holds, with its spare room.
func spoil(c api.Circuit) {
	for _, o := range c.Ops[:cap(c.Ops)] {
		list := o.Qubits[:cap(o.Qubits)]
		for j := range list {
			list[j] = -9
		}
	}
	list := c.Ops[:cap(c.Ops)]
	for j := range list {
		list[j] = api.Op{Kind: -9, Name: "spoilt"}
	}
}

// copied is a circuit in memory of its own.
func copied(c api.Circuit) api.Circuit {
	c.Ops = slices.Clone(c.Ops)
	for j := range c.Ops {
		c.Ops[j].Qubits = slices.Clone(c.Ops[j].Qubits)
	}
	return c
}

// given are circuits for these tests: such as rules fit, such as none fits, and such as are refused.
func given() []api.Circuit {
	s := source(31)
	list := []api.Circuit{{}, of(64, 64)}
	for _, text := range []string{
		"x0", "x0 y1 cx01", "t0? m00 r1 t0?", "ccz012 cswap120 m22", // none fits
		"i0", "x0 i1 y2", "x0 y1 x0 cx12", "cz01 m22 cz10 ccx012", "t0 cx12 t0 cswap210", "y1 h0 x2 z0 r1 h0 ccx210",
		"cx00 i0", "x0 x0 foo1", "h9 h0 x0 h0", // refused
	} {
		list = append(list, made(text))
	}
	for range 150 {
		list = append(list, s.circuit(s.want()))
	}
	return list
}

// calls are those of the package, by their names.
var calls = map[string]func(api.Circuit) api.Circuit{
	"Step": func(c api.Circuit) api.Circuit { d, _, _ := opt.Step(c); return d },
	"Run":  func(c api.Circuit) api.Circuit { d, _ := opt.Run(c); return d },
}

// Rule 5: what is handed in stays, with the room behind it, whether it is taken or refused.
func TestArgumentsStay(t *testing.T) {
	for name, call := range calls {
		for _, c := range given() {
			mine := roomy(c)
			call(mine)
			stays(t, name, mine, c)
		}
	}
}

// Rule 5: an answer shares no memory with what was handed in, nor with another answer, also where no rule fits.
func TestAnswersAreTheCallers(t *testing.T) {
	for name, call := range calls {
		for _, c := range given() {
			mine := roomy(c)
			first, second := call(mine), call(mine)
			want := copied(first)
			spoil(first)
			stays(t, name, mine, c)
			if !same(second, want) {
				t.Fatalf("%s of %s: two answers share memory", name, few(c))
			}
			spoil(mine)
			if !same(second, want) {
				t.Fatalf("%s of %s: the answer shares memory with the circuit", name, few(c))
			}
		}
	}
}

// Rule 5: no two lists of one answer share any memory, the room behind them included; nor do they where lists that are handed in do.
func TestListsOfOneAnswer(t *testing.T) {
	shared := []int{0, 1, 2}
	together := of(3, 3, op("cx", shared[:2]...), op("cz", shared[1:]...), op("cx", shared[:2]...), op("ccx", shared...), op("t", shared[:1]...), op("i", shared[2:]...))
	for name, call := range calls {
		for _, c := range append(given(), together) {
			d := call(c)
			want := copied(d)
			for j, o := range d.Ops {
				spoil(of(0, 0, o))
				for k, other := range d.Ops {
					if k != j && !sameOp(other, want.Ops[k]) {
						t.Fatalf("%s of %s: the lists of operations %d and %d share memory", name, few(want), j, k)
					}
				}
				copy(o.Qubits, want.Ops[j].Qubits)
			}
		}
	}
}

// Rule 6: nothing is kept from call to call.
func TestNothingIsKept(t *testing.T) {
	list := given()
	var first []api.Circuit
	for _, c := range list {
		first = append(first, calls["Step"](c), calls["Run"](c))
	}
	for j := len(list) - 1; j >= 0; j-- {
		if !same(calls["Run"](list[j]), first[2*j+1]) || !same(calls["Step"](list[j]), first[2*j]) {
			t.Fatalf("%s: another answer, called again", few(list[j]))
		}
	}
}
