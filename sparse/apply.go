package sparse

import (
	"slices"

	"cubit/api"
	"cubit/gate"
	"cubit/ring"
)

// An entry is one of a gate's matrix, laid on a map's qubits: flip is the bits in which the new element's index differs from the old one's, power that of w, and double says that the entry, unlike the gate, is over no square root of 2.
type entry struct {
	flip   uint64
	power  int
	double bool
}

// Apply makes the map the state behind a gate on these qubits. What is refused leaves it as it was: the new elements are in a table of their own until all is done.
func (m *Map) Apply(name string, qubits []int) api.Errno {
	if m == nil {
		return api.ErrArg
	}
	if e := m.checkGate(name, qubits); e != api.OK {
		return e
	}
	halves := gate.Halves(name)
	elements, e := led(m.elements, laid(name, qubits, halves), qubits)
	if e != api.OK {
		return e
	}
	next := oneForm(Map{qubits: m.qubits, power: m.power + halves, elements: elements})
	if next.power > api.MaxPower {
		return api.ErrBig
	}
	*m = next
	return api.OK
}

// checkGate tells what is wrong with a gate on these qubits. All of them are looked for in the map ahead of any that stands there twice.
func (m *Map) checkGate(name string, qubits []int) api.Errno {
	arity := gate.Arity(name)
	if arity == 0 {
		return api.ErrGate
	}
	if len(qubits) != arity {
		return api.ErrArity
	}
	for _, q := range qubits {
		if !m.hasQubit(q) {
			return api.ErrArg
		}
	}
	for j, q := range qubits {
		if slices.Contains(qubits[:j], q) {
			return api.ErrSame
		}
	}
	return api.OK
}

// laid is the columns of the gate's matrix, each with its entries that aren't nought.
func laid(name string, qubits []int, halves int) [][]entry {
	columns := make([][]entry, 1<<len(qubits))
	for y := range columns {
		rows, values, _ := gate.Column(name, y)
		for j, x := range rows {
			power, _ := ring.Order(values[j].R, api.Ring{A: 1})
			columns[y] = append(columns[y], entry{flip: spread(x^y, qubits), power: power, double: values[j].K < halves})
		}
	}
	return columns
}

// spread is the number whose bits at the qubits are those of value, the first qubit's the lowest.
func spread(value int, qubits []int) uint64 {
	var index uint64
	for j, q := range qubits {
		index |= uint64(value>>j&1) << q
	}
	return index
}

// gathered is the number that the bits at the qubits make, the first qubit's the lowest.
func gathered(index uint64, qubits []int) int {
	value := 0
	for j, q := range qubits {
		value |= int(index>>q&1) << j
	}
	return value
}

// led is what the columns lead the elements to. A new element has one or two terms, of which the first is added to a nought, and that is never refused: so in whatever order they come, the sum is the same, and so is its refusal.
func led(elements table[api.Ring], columns [][]entry, qubits []int) (table[api.Ring], api.Errno) {
	next := table[api.Ring]{}
	for y, r := range elements {
		for _, n := range columns[gathered(y, qubits)] {
			more, e := term(r, n)
			if e != api.OK {
				return nil, e
			}
			sum, e := ring.Add(next[y^n.flip], more)
			if e != api.OK {
				return nil, e
			}
			next.set(y^n.flip, sum)
		}
	}
	return next, api.OK
}

// term is what the entry makes of an old element.
func term(r api.Ring, n entry) (api.Ring, api.Errno) {
	r, e := ring.Turn(r, n.power)
	if e != api.OK || !n.double {
		return r, e
	}
	return ring.Double(r)
}
