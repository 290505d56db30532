package flat

import (
	"cubit/api"
	"cubit/gate"
)

// What a name may be taken by; 0: by nothing.
const (
	qubitRegister = iota + 1
	bitRegister
	ownGate     // one of layer 8's
	begunGate   // one whose body is being looked at
	definedGate // one whose body is behind
)

// A meaning is what a name is taken by.
type meaning struct {
	sort  int
	first int    // a register's lowest qubit or bit
	size  int    // how many qubits or bits a register has, on how many qubits a gate is
	depth int    // of a gate: how many definitions it leads through at most
	body  []part // of a defined gate, its qubits by their numbers among its parameters
}

// ownGates are the names that are taken ahead of all rows.
func ownGates() map[string]meaning {
	names := map[string]meaning{}
	for _, name := range gate.Names() {
		names[name] = meaning{sort: ownGate, size: gate.Arity(name)}
	}
	return names
}

// A stand is where a row stands.
type stand struct {
	place       int // the row's own
	nested      int
	inGate      bool
	mask, value uint64 // what the ifs around it want
}

// A part is what a row leads to: an operation, or other parts so many times. Rows that lead to no operation have none: so going through parts ends soon, however often they are repeated.
type part struct {
	at    stand
	op    api.Op // its Qubits are numbers among the qubits around: the circuit's or a definition's parameters. Of several operations: Kind 0, and Qubits where it is a use
	times int
	body  []part
}

// leads: does it lead to an operation?
func (p part) leads() bool { return p.op.Kind != 0 || p.times > 0 && len(p.body) > 0 }

// A looker goes over the rows, from the first on.
type looker struct {
	names        map[string]meaning
	qubits, bits int            // of all registers up to here
	params       map[string]int // of the definition in which the row stands, with their numbers
	depth        int            // of that definition, up to here
	place        int            // of the row that is looked at: where a fault is found, it is this one's
}

// body looks at rows that stand in one body, and tells their parts.
func (l *looker) body(rows []api.Row, at stand) ([]part, api.Errno) {
	var parts []part
	for len(rows) > 0 {
		row, behind := rows[0], rows[1:]
		l.place, at.place = row.Place, row.Place
		if e := checkForm(row, len(behind), at); e != api.OK {
			return nil, e
		}
		p, e := l.row(row, behind[:row.Rows], at)
		if e != api.OK {
			return nil, e
		}
		if p.leads() && len(parts) <= api.MaxOps { // those behind so many are never reached
			parts = append(parts, p)
		}
		rows = behind[row.Rows:]
	}
	return parts, api.OK
}

// row looks at a row of the right form, and at its body.
func (l *looker) row(row api.Row, body []api.Row, at stand) (part, api.Errno) {
	inside := at
	inside.nested++
	switch row.Kind {
	case "qubits":
		return part{}, l.declare(row, qubitRegister, &l.qubits, api.MaxRows)
	case "bits":
		return part{}, l.declare(row, bitRegister, &l.bits, api.MaxBits)
	case "gate":
		inside.inGate = true
		return part{}, l.define(row, body, inside)
	case "repeat":
		return l.repeat(row, body, at, inside)
	case "if":
		return l.when(row, body, at, inside)
	case "measure":
		return l.measure(row, at)
	case "reset":
		return l.reset(row, at)
	}
	return l.use(row, at)
}
