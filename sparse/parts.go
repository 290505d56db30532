package sparse

import (
	"cubit/api"
	"cubit/ring"
	"cubit/root"
)

// Weights are that of the part where the qubit is 1, and that of all. A part weighs no more than all: it is refused only where all is.
func (m *Map) Weights(qubit int) (one, all api.Root, e api.Errno) {
	if m == nil || !m.hasQubit(qubit) {
		return api.Root{}, api.Root{}, api.ErrArg
	}
	if all, e = m.weight(0); e != api.OK {
		return api.Root{}, api.Root{}, e
	}
	if one, e = m.weight(1 << qubit); e != api.OK {
		return api.Root{}, api.Root{}, e
	}
	return one, all, api.OK
}

// weight is that of the elements with all of these bits set. Each of them adds to P: once that is beyond the bound it stays there, in whatever order they come. No Q is greater than its P.
func (m *Map) weight(set uint64) (api.Root, api.Errno) {
	var p, q int64
	for x, r := range m.elements {
		if x&set != set {
			continue
		}
		w, e := ring.Weight(r)
		if e != api.OK {
			return api.Root{}, e
		}
		p, q = p+w.P, q+w.Q
		if p > api.MaxPart {
			return api.Root{}, api.ErrBig
		}
	}
	return root.Make(p, q, m.power)
}

// Project makes the map the part of it where the qubit is bit. What is refused leaves it as it was.
func (m *Map) Project(qubit, bit int) api.Errno {
	if m == nil || !m.hasQubit(qubit) || bit != 0 && bit != 1 {
		return api.ErrArg
	}
	part := table[api.Ring]{}
	for x, r := range m.elements {
		if x>>qubit&1 == uint64(bit) {
			part.set(x, r)
		}
	}
	if len(part) == 0 {
		return api.ErrNull
	}
	*m = oneForm(Map{qubits: m.qubits, power: m.power, elements: part})
	return api.OK
}
