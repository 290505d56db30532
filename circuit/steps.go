package circuit

import "cubit/api"

// Layers are the numbers of the operations of each step, rising.
func Layers(c api.Circuit) ([][]int, api.Errno) {
	if _, e := Check(c); e != api.OK {
		return nil, e
	}
	var layers [][]int
	var m marks
	for j, op := range c.Ops {
		step := m.least(op)
		m.put(op, step)
		if step == len(layers) {
			layers = append(layers, nil)
		}
		layers[step] = append(layers[step], j)
	}
	return layers, api.OK
}

// Order is the circuit whose operation number i is c's number order[i], if no two bound ones are turned about.
func Order(c api.Circuit, order []int) (api.Circuit, api.Errno) {
	if _, e := Check(c); e != api.OK {
		return api.Circuit{}, e
	}
	if !eachOnce(order, len(c.Ops)) {
		return api.Circuit{}, api.ErrArg
	}
	ops := make([]api.Op, 0, len(order))
	var m marks
	for _, j := range order {
		if j < m.least(c.Ops[j]) {
			return api.Circuit{}, api.ErrArg
		}
		m.put(c.Ops[j], j)
		ops = append(ops, own(c.Ops[j]))
	}
	return api.Circuit{Qubits: c.Qubits, Bits: c.Bits, Ops: ops}, api.OK
}

// eachOnce: is it a list in which each number below count stands once?
func eachOnce(list []int, count int) bool {
	if len(list) != count {
		return false
	}
	seen := make([]bool, count)
	for _, j := range list {
		if j < 0 || j >= count || seen[j] {
			return false
		}
		seen[j] = true
	}
	return true
}

// marks are left by operations that are gone over, each with a value: at each qubit, at each bit for writing and for reading, and at the coins stands one more than the greatest value of those that touched it; 0, if none did. So no two operations need be held against each other.
type marks struct {
	qubits        [api.MaxRows]int
	writes, reads [api.MaxBits]int
	coins         int
}

// least is one more than the greatest value of the operations so far that are bound to this one; 0, if none is.
func (m *marks) least(op api.Op) int {
	least := 0
	for _, q := range op.Qubits {
		least = max(least, m.qubits[q])
	}
	for bit := range m.writes {
		if reads(op, bit) {
			least = max(least, m.writes[bit])
		}
	}
	if op.Kind == api.OpMeasure {
		least = max(least, m.writes[op.Bit], m.reads[op.Bit])
	}
	if takesCoin(op) {
		least = max(least, m.coins)
	}
	return least
}

// put leaves the marks of an operation whose value is at least its least. That is above what stands where it touches, but where it only reads: readers aren't bound to each other.
func (m *marks) put(op api.Op, value int) {
	for _, q := range op.Qubits {
		m.qubits[q] = value + 1
	}
	for bit := range m.reads {
		if reads(op, bit) {
			m.reads[bit] = max(m.reads[bit], value+1)
		}
	}
	if op.Kind == api.OpMeasure {
		m.writes[op.Bit] = value + 1
	}
	if takesCoin(op) {
		m.coins = value + 1
	}
}

// reads: does the operation's condition look at the bit? (Without one its Mask is nought.)
func reads(op api.Op, bit int) bool { return op.Mask>>bit&1 == 1 }

// takesCoin: is it a measurement or a reset?
func takesCoin(op api.Op) bool { return op.Kind != api.OpGate }
