package circuit

import (
	"slices"

	"cubit/api"
	"cubit/gate"
)

// look is Check, with the halvings of a circuit that is one: they are counted on the way.
func look(c api.Circuit) (int, int, api.Errno) {
	if c.Qubits < 0 || c.Qubits > api.MaxRows || c.Bits < 0 || c.Bits > api.MaxBits {
		return 0, 0, api.ErrArg
	}
	if len(c.Ops) > api.MaxOps {
		return 0, 0, api.ErrMany
	}
	gates := known{}
	halves := 0
	for at, op := range c.Ops {
		n := gates.need(op)
		if e := checkOp(c, op, n.qubits); e != api.OK {
			return at, 0, e
		}
		halves += n.halves
		if halves > api.MaxHalf {
			return at, 0, api.ErrRoots
		}
	}
	return 0, halves, api.OK
}

// A need is how many qubits an operation has, and how often it halves.
type need struct {
	qubits, halves int
}

// known is what package gate has told, by name. Each question there lays out all gates anew, and a circuit has many operations of few names.
type known map[string]need

// need of an operation; no qubits of a gate that is none.
func (k known) need(op api.Op) need {
	if op.Kind != api.OpGate {
		return need{qubits: 1}
	}
	n, ok := k[op.Name]
	if !ok {
		n = need{gate.Arity(op.Name), gate.Halves(op.Name)}
		k[op.Name] = n
	}
	return n
}

// checkOp tells what is wrong with an operation by itself, if it has so many qubits.
func checkOp(c api.Circuit, op api.Op, qubits int) api.Errno {
	switch {
	case !rightFields(op) || !rightCondition(op, c.Bits):
		return api.ErrOp
	case qubits == 0:
		return api.ErrGate
	case len(op.Qubits) != qubits:
		return api.ErrArity
	case !rightNumbers(op, c):
		return api.ErrIndex
	case twice(op.Qubits):
		return api.ErrSame
	}
	return api.OK
}

// rightFields: is the Kind one, and is nothing told that it has no use for?
func rightFields(op api.Op) bool {
	switch op.Kind {
	case api.OpGate:
		return op.Bit == 0
	case api.OpMeasure:
		return op.Name == ""
	case api.OpReset:
		return op.Name == "" && op.Bit == 0
	}
	return false
}

// rightCondition: is there no trace of a condition, or one that some values of so many bits meet?
func rightCondition(op api.Op, bits int) bool {
	if !op.If {
		return op.Mask == 0 && op.Value == 0
	}
	return op.Mask != 0 && op.Mask>>bits == 0 && op.Value&^op.Mask == 0
}

// rightNumbers: does the circuit have the qubits, and the bit that is measured into?
func rightNumbers(op api.Op, c api.Circuit) bool {
	for _, q := range op.Qubits {
		if q < 0 || q >= c.Qubits {
			return false
		}
	}
	return op.Kind != api.OpMeasure || op.Bit >= 0 && op.Bit < c.Bits
}

// twice: does a number stand there twice?
func twice(list []int) bool {
	for j, n := range list {
		if slices.Contains(list[:j], n) {
			return true
		}
	}
	return false
}
