package circuit

import (
	"slices"
	"strings"

	"cubit/api"
	"cubit/gate"
)

// Inverse is the circuit that takes c back: its gates' inverses, the last one first. No gate writes a bit, so each condition finds there what it found on the way.
func Inverse(c api.Circuit) (api.Circuit, api.Errno) {
	if _, e := Check(c); e != api.OK {
		return api.Circuit{}, e
	}
	ops := make([]api.Op, 0, len(c.Ops))
	for _, op := range slices.Backward(c.Ops) {
		if op.Kind != api.OpGate {
			return api.Circuit{}, api.ErrBack
		}
		back := own(op)
		back.Name, _ = gate.Inverse(op.Name) // Check has taken the name
		ops = append(ops, back)
	}
	return api.Circuit{Qubits: c.Qubits, Bits: c.Bits, Ops: ops}, api.OK
}

// Then is the circuit with a's operations and then b's.
func Then(a, b api.Circuit) (api.Circuit, api.Errno) {
	if _, e := Check(a); e != api.OK {
		return api.Circuit{}, e
	}
	if _, e := Check(b); e != api.OK {
		return api.Circuit{}, e
	}
	if a.Qubits != b.Qubits || a.Bits != b.Bits {
		return api.Circuit{}, api.ErrArg
	}
	both := api.Circuit{Qubits: a.Qubits, Bits: a.Bits, Ops: slices.Concat(a.Ops, b.Ops)}
	if _, e := Check(both); e != api.OK {
		return api.Circuit{}, e
	}
	for j, op := range both.Ops {
		both.Ops[j] = own(op)
	}
	return both, api.OK
}

// own is the operation in memory of its own.
func own(op api.Op) api.Op {
	op.Name = strings.Clone(op.Name)
	op.Qubits = slices.Clone(op.Qubits)
	return op
}
