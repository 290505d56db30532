package opt_test

import (
	"slices"
	"testing"

	"cubit/api"
)

// The chapter's words, written out operation by operation.

// A condition is an operation's If, Mask and Value.
type condition struct {
	on          bool
	mask, value uint64
}

func conditionOf(o api.Op) condition { return condition{o.If, o.Mask, o.Value} }

func sharesQubit(a, b api.Op) bool {
	return slices.ContainsFunc(a.Qubits, func(q int) bool { return slices.Contains(b.Qubits, q) })
}

func sameSet(a, b []int) bool {
	return slices.Equal(slices.Sorted(slices.Values(a)), slices.Sorted(slices.Values(b)))
}

// neighbours: are j and k, j ahead of k?
func neighbours(list []api.Op, j, k int) bool {
	a, b := list[j], list[k]
	if a.Kind != api.OpGate || b.Kind != api.OpGate || conditionOf(a) != conditionOf(b) || !sameSet(a.Qubits, b.Qubits) {
		return false
	}
	for _, o := range list[j+1 : k] {
		if sharesQubit(o, a) || o.Kind == api.OpMeasure && a.Mask&(1<<o.Bit) != 0 {
			return false
		}
	}
	return true
}

// firstNeighbour is that of j behind it; -1, if there is none. All are looked at: what stands in the way hides those behind it by neighbours' own words.
func firstNeighbour(list []api.Op, j int) int {
	for k := j + 1; k < len(list); k++ {
		if neighbours(list, j, k) {
			return k
		}
	}
	return -1
}

// asGood: does one list of qubits come from the other by exchanges that the gate doesn't mind?
func asGood(name string, a, b []int) bool {
	reached := [][]int{a}
	for at := 0; at < len(reached); at++ {
		for _, places := range factOf(name).swaps {
			next := slices.Clone(reached[at])
			next[places[0]], next[places[1]] = next[places[1]], next[places[0]]
			if !slices.ContainsFunc(reached, func(l []int) bool { return slices.Equal(l, next) }) {
				reached = append(reached, next)
			}
		}
	}
	return slices.ContainsFunc(reached, func(l []int) bool { return slices.Equal(l, b) })
}

// A change is what a rule does: the operations that it takes out, the first one first, and the gate that it puts in their place, if any.
type change struct {
	out []int
	put string
}

// The rules: does it fit at j?
func idle(list []api.Op, j int) (change, bool) {
	return change{out: []int{j}}, list[j].Kind == api.OpGate && list[j].Name == "i"
}

func undo(list []api.Op, j int) (change, bool) {
	k := firstNeighbour(list, j)
	if k < 0 {
		return change{}, false
	}
	a, b := list[j], list[k]
	return change{out: []int{j, k}}, b.Name == factOf(a.Name).back && asGood(a.Name, a.Qubits, b.Qubits)
}

func merge(list []api.Op, j int) (change, bool) {
	k := firstNeighbour(list, j)
	if k < 0 || factOf(list[j].Name).turn == 0 || factOf(list[k].Name).turn == 0 {
		return change{}, false
	}
	sum := (factOf(list[j].Name).turn + factOf(list[k].Name).turn) % 8
	names := map[int]string{0: "", 1: "t", 2: "s", 4: "z", 6: "sdg", 7: "tdg"}
	name, ok := names[sum]
	return change{[]int{j, k}, name}, ok
}

func flip(list []api.Op, j int) (change, bool) {
	k := firstNeighbour(list, j)
	if k < 0 {
		return change{}, false
	}
	l := firstNeighbour(list, k)
	if l < 0 || list[j].Name != "h" || list[l].Name != "h" {
		return change{}, false
	}
	switch list[k].Name {
	case "x":
		return change{[]int{j, k, l}, "z"}, true
	case "z":
		return change{[]int{j, k, l}, "x"}, true
	}
	return change{}, false
}

// changed is the list behind a change.
func changed(list []api.Op, c change) []api.Op {
	var left []api.Op
	for j, o := range list {
		if j == c.out[0] && c.put != "" {
			o.Name = c.put
			left = append(left, o)
		}
		if !slices.Contains(c.out, j) {
			left = append(left, o)
		}
	}
	return left
}

// A fit is a rule by its number (idle 1, undo 2, merge 3, flip 4) and the operation at which it fits; of none the number 0.
type fit struct {
	rule, at int
}

// wordStep is Step, and which rule it was.
func wordStep(c api.Circuit) (api.Circuit, fit) {
	for n, rule := range []func([]api.Op, int) (change, bool){idle, undo, merge, flip} {
		for j := range c.Ops {
			if what, ok := rule(c.Ops, j); ok {
				return of(c.Qubits, c.Bits, changed(c.Ops, what)...), fit{n + 1, j}
			}
		}
	}
	return c, fit{}
}

// A tally counts which rules were seen to fit.
type tally [5]int

// hold asks that Step answers by the words, of the circuit and of each one behind it, and that Run answers the last.
func (y *tally) hold(t *testing.T, c api.Circuit) {
	t.Helper()
	now := c
	for fits := true; fits; {
		want, f := wordStep(now)
		fits = f.rule > 0
		y[f.rule]++
		if d, more := step(t, now); !same(d, want) || more != fits {
			t.Fatalf("Step of %s: %s, %v, not %s by rule %d", few(now), few(d), more, few(want), f.rule)
		}
		now = want
	}
	if d := run(t, c); !same(d, now) {
		t.Fatalf("Run of %s: %s, not %s", few(c), few(d), few(now))
	}
}

// each calls of all lists of so many of a pool.
func each(pool []api.Op, many int, call func([]api.Op)) {
	list := make([]api.Op, many)
	var fill func(at int)
	fill = func(at int) {
		if at == many {
			call(slices.Clone(list))
			return
		}
		for _, o := range pool {
			list[at] = o
			fill(at + 1)
		}
	}
	fill(0)
}

// P19.1: all pairs of gates on three qubits, in all orders of their qubits.
func TestAllPairsOfGates(t *testing.T) {
	var y tally
	each(onAll(3), 2, func(list []api.Op) { y.hold(t, of(3, 0, list...)) })
	// 111 gates; 666: three of them are i. 186: 36 on one qubit, 18 that mind, 72 and 36 that don't, and 24 that mind in part. 36: twelve sums on three qubits.
	if want := (tally{12321, 666, 186, 36, 0}); y != want {
		t.Errorf("rules: %v, not %v", y, want)
	}
}

// P19.1: all lists of three, four and five operations of some pools.
func TestAllShortLists(t *testing.T) {
	for many, text := range map[int]string{
		3: "i0 i1? x0 z0 h0 t0 s0 sdg0 tdg0 h1 x0? z0? h0? h0?1=0 t0?3=1 t0?2=2 x0?2=2 cx01 cx10 cz01 cz10 cs10 csdg01 m00 m10 m11 m10? m11?2=0 r0 r1 r1?",
		4: "x0 h0 z0 t0 h1 x0? h0? cz01 cz10 m10 r1",
		5: "h0 x0 z0 h0? x0? m10 r1",
		6: "h0 x0 z0 t0 cx01",
		7: "h0 x0 h1 z1",
	} {
		var y tally
		each(ops(text), many, func(list []api.Op) { y.hold(t, of(2, 2, list...)) })
		if y[0] < 1000 || y[2] < 1000 || y[4] < 1 {
			t.Errorf("rules of lists of %d: %v", many, y)
		}
	}
}

// P19.1: two gates that a rule takes, with every operation between them.
func TestOneBetween(t *testing.T) {
	between := slices.Concat(onAll(3), ops("m00 m01 m10 m11 m20 m21 m02? r0 r1 r2 r2?"))
	var y tally
	for _, pair := range []string{"x0 x0", "t0 t0", "t0? s0?", "tdg0?2=2 s0?2=2", "cz01 cz10", "cx01? cx01?", "cx01 cx10", "iswap20?6=4 iswapdg02?6=4", "ccx012 ccx102", "cswap012 cswap021", "w0 wdg0", "x0? x0"} {
		for _, k := range between {
			two := ops(pair)
			y.hold(t, of(3, 3, two[0], k, two[1]))
			y.hold(t, of(3, 3, two[0], when(k, 1, 1), two[1]))
			y.hold(t, of(3, 3, two[0], when(k, 6, 2), two[1]))
		}
	}
	if y[0] < 2000 || y[2] < 500 || y[3] < 100 {
		t.Errorf("rules: %v", y)
	}
}

// P19.1: three gates that flip takes, with every operation at both places between them.
func TestOneBetweenFlip(t *testing.T) {
	between := slices.Concat(onAll(2), ops("m00 m01 m10 m11 m11? m10?2=2 r0 r1 r1?"))
	var y tally
	for _, three := range []string{"h0 x0 h0", "h0 z0 h0", "h0? x0? h0?", "h0?2=0 z0?2=0 h0?2=0", "h0 x0? h0", "h0? z0? h0", "h0 y0 h0"} {
		for _, k := range between {
			gates := ops(three)
			y.hold(t, of(2, 2, gates[0], k, gates[1], gates[2]))
			y.hold(t, of(2, 2, gates[0], gates[1], k, gates[2]))
			y.hold(t, of(2, 2, gates[0], k, gates[1], k, gates[2]))
			y.hold(t, of(2, 2, gates[0], when(k, 1, 1), gates[1], gates[2]))
			y.hold(t, of(2, 2, gates[0], gates[1], when(k, 2, 0), gates[2]))
		}
	}
	if y[4] < 300 {
		t.Errorf("rules: %v", y)
	}
}

// P19.1: circuits of all sorts.
func TestByTheWords(t *testing.T) {
	s := source(1)
	var y tally
	for j := range 6000 {
		y.hold(t, s.circuit(wish{
			qubits: pick(&s, 0, 1, 1, 2, 2, 3, 4, 5, 64), bits: pick(&s, 0, 1, 2, 3, 64), ops: s.below(4 + j%40),
			taking: s.below(4), conditions: s.below(7), again: s.below(9), left: pick(&s, 2, 10, 36),
		}))
	}
	if y[1] < 2000 || y[2] < 3000 || y[3] < 1000 || y[4] < 1000 {
		t.Errorf("rules: %v", y)
	}
}

// P19.1: longer ones, on few qubits and on many.
func TestLongOnesByTheWords(t *testing.T) {
	s := source(2)
	var y tally
	for j := range 24 {
		y.hold(t, s.circuit(wish{qubits: pick(&s, 1, 3, 8, 64), bits: pick(&s, 1, 64), ops: 150 + 5*j, taking: j % 3, conditions: j % 4, again: j % 6, left: 36}))
	}
	if y[1] < 200 || y[2] < 200 || y[3] < 100 || y[4] < 50 {
		t.Errorf("rules: %v", y)
	}
}
