package linear

import (
	"slices"

	"cubit/api"
	"cubit/circuit"
)

// From is the matrix that tells what a circuit of cx and swap does to basis states.
func From(c api.Circuit) (api.Linear, api.Errno) {
	if _, e := circuit.Check(c); e != api.OK {
		return api.Linear{}, e
	}
	rows := eye(c.Qubits)
	for _, op := range c.Ops {
		if !turn(rows, op) {
			return api.Linear{}, api.ErrOp
		}
	}
	return api.Linear{N: c.Qubits, Rows: rows}, api.OK
}

// turn puts an operation behind what the rows tell; false, if it is neither cx nor swap, or has a condition.
func turn(rows []uint64, op api.Op) bool {
	if op.Kind != api.OpGate || op.If {
		return false
	}
	switch op.Name {
	case "cx":
		rows[op.Qubits[1]] ^= rows[op.Qubits[0]]
	case "swap":
		a, b := op.Qubits[0], op.Qubits[1]
		rows[a], rows[b] = rows[b], rows[a]
	default:
		return false
	}
	return true
}

// Synth is a circuit of cx gates of which From tells m. What takes m to Eye, one addition behind the other, takes Eye to m in the opposite order: each addition takes itself back.
func Synth(m api.Linear) (api.Circuit, api.Errno) {
	if e := Check(m); e != api.OK {
		return api.Circuit{}, e
	}
	d := descent{rows: slices.Clone(m.Rows)}
	for column := range m.N {
		if !d.settle(column) {
			return api.Circuit{}, api.ErrSingular
		}
	}
	slices.Reverse(d.ops)
	return api.Circuit{Qubits: m.N, Ops: d.ops}, api.OK
}

// A descent takes rows to those of Eye by adding one to another, and keeps each addition as a gate.
type descent struct {
	rows []uint64
	ops  []api.Op
}

// settle makes a column that of Eye, those ahead of it being so; false: no row can give it its one. A row is added where another way would exchange two: that is one gate instead of three, so that a column takes at most as many gates as there are rows.
func (d *descent) settle(column int) bool {
	for i := column + 1; i < len(d.rows) && !has(d.rows[column], column); i++ {
		if has(d.rows[i], column) {
			d.add(i, column)
		}
	}
	if !has(d.rows[column], column) {
		return false
	}
	for i := range len(d.rows) {
		if i != column && has(d.rows[i], column) {
			d.add(column, i)
		}
	}
	return true
}

// add adds a row to another one, as cx adds a bit to another one.
func (d *descent) add(from, to int) {
	d.rows[to] ^= d.rows[from]
	d.ops = append(d.ops, api.Op{Kind: api.OpGate, Name: "cx", Qubits: []int{from, to}})
}
