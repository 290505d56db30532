package flat

import (
	"strings"

	"cubit/api"
	"cubit/circuit"
)

// laid is the circuit of so many qubits and bits to which the parts lead.
func laid(parts []part, qubits, bits int) (api.Circuit, int, api.Errno) {
	all := make([]int, qubits)
	for j := range all {
		all[j] = j
	}
	var m maker
	if !m.lay(parts, all) {
		return api.Circuit{}, m.from.place, api.ErrMany
	}
	c := api.Circuit{Qubits: qubits, Bits: bits, Ops: m.ops}
	if at, e := circuit.Check(c); e != api.OK {
		return api.Circuit{}, m.places[at], e
	}
	return c, 0, api.OK
}

// A maker lays operations one behind the other.
type maker struct {
	ops    []api.Op
	places []int // for each of them: of the row outside of definitions from which it comes
	from   stand // where that row stands, for the next one
}

// lay lays the parts' operations on qubits of these; false, as soon as they are too many. (Each part has one, so it gets there soon, however often there is to repeat.)
func (m *maker) lay(parts []part, qubits []int) bool {
	for _, p := range parts {
		if !p.at.inGate {
			m.from = p.at
		}
		on := qubits
		if len(p.op.Qubits) > 0 {
			on = chosen(qubits, p.op.Qubits)
		}
		if p.op.Kind != 0 && !m.add(p.op, on) {
			return false
		}
		for range p.times {
			if !m.lay(p.body, on) {
				return false
			}
		}
	}
	return true
}

// chosen is a list of its own of the qubits with these numbers.
func chosen(qubits, numbers []int) []int {
	list := make([]int, len(numbers))
	for j, n := range numbers {
		list[j] = qubits[n]
	}
	return list
}

// add lays one operation, under the condition of the row from which it comes; false, if it is one too many.
func (m *maker) add(op api.Op, on []int) bool {
	op.Name, op.Qubits = strings.Clone(op.Name), on
	op.If, op.Mask, op.Value = m.from.mask != 0, m.from.mask, m.from.value
	m.ops = append(m.ops, op)
	m.places = append(m.places, m.from.place)
	return len(m.ops) <= api.MaxOps
}
