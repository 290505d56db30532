package dense

import (
	"slices"

	"cubit/api"
	"cubit/bits"
	"cubit/circuit"
	"cubit/gate"
	"cubit/ring"
)

// An entry is one of a gate's matrix, laid on a state's qubits: flip is the bits in which the old element's index differs from the new one's, power that of w, and double says that the entry, unlike the gate, is over no square root of 2.
type entry struct {
	flip   uint64
	power  int
	double bool
}

// Apply is the state behind a gate on these qubits, or ErrBig.
func Apply(s api.State, name string, qubits []int) (api.State, api.Errno) {
	if e := Check(s); e != api.OK {
		return api.State{}, e
	}
	if e := checkGate(s, name, qubits); e != api.OK {
		return api.State{}, e
	}
	return applied(s, name, qubits)
}

// checkGate tells what is wrong with a gate on these qubits. All of them are looked for in the state ahead of any that stands there twice.
func checkGate(s api.State, name string, qubits []int) api.Errno {
	arity := gate.Arity(name)
	if arity == 0 {
		return api.ErrGate
	}
	if len(qubits) != arity {
		return api.ErrArity
	}
	for _, q := range qubits {
		if !hasQubit(s, q) {
			return api.ErrArg
		}
	}
	for j, q := range qubits {
		if slices.Contains(qubits[:j], q) {
			return api.ErrSame
		}
	}
	return api.OK
}

// applied is Apply of what was looked at already.
func applied(s api.State, name string, qubits []int) (api.State, api.Errno) {
	halves := gate.Halves(name)
	rows := laid(name, qubits, halves)
	t := api.State{N: s.N, K: s.K + halves, Amps: make([]api.Ring, len(s.Amps))}
	for x := range t.Amps {
		row, _ := bits.Pick(uint64(x), qubits)
		r, e := element(s.Amps, uint64(x), rows[row])
		if e != api.OK {
			return api.State{}, e
		}
		t.Amps[x] = r
	}
	t = oneForm(t)
	if t.K > api.MaxPower {
		return api.State{}, api.ErrBig
	}
	return t, api.OK
}

// laid is the rows of the gate's matrix, each with its entries that aren't nought.
func laid(name string, qubits []int, halves int) [][]entry {
	m, _ := gate.Matrix(name)
	rows := make([][]entry, len(m))
	for x, row := range m {
		for y, a := range row {
			power, ok := ring.Order(a.R, api.Ring{A: 1})
			if !ok { // a nought is no power of w
				continue
			}
			flip, _ := bits.Put(0, qubits, uint64(x^y))
			rows[x] = append(rows[x], entry{flip: flip, power: power, double: a.K < halves})
		}
	}
	return rows
}

// element is the new element x: the sum of its row's terms, of which there are one or two.
func element(old []api.Ring, x uint64, row []entry) (api.Ring, api.Errno) {
	first, e := term(old, x, row[0])
	if e != api.OK || len(row) == 1 {
		return first, e
	}
	second, e := term(old, x, row[1])
	if e != api.OK {
		return api.Ring{}, e
	}
	return ring.Add(first, second)
}

// term is what the entry makes of the old element from which it leads to the new element x.
func term(old []api.Ring, x uint64, n entry) (api.Ring, api.Errno) {
	r, e := ring.Turn(old[x^n.flip], n.power)
	if e != api.OK || !n.double {
		return r, e
	}
	return ring.Double(r)
}

// Run is the state behind a circuit of gates alone.
func Run(s api.State, c api.Circuit) (api.State, api.Errno) {
	if e := checkRun(s, c); e != api.OK {
		return api.State{}, e
	}
	s = own(s) // without operations it is the answer
	for _, op := range c.Ops {
		var e api.Errno
		if s, e = applied(s, op.Name, op.Qubits); e != api.OK {
			return api.State{}, e
		}
	}
	return s, api.OK
}

// checkRun tells what is wrong with a circuit on this state. A circuit that is taken has no gate that Apply would refuse but by size.
func checkRun(s api.State, c api.Circuit) api.Errno {
	if e := Check(s); e != api.OK {
		return e
	}
	clean, e := circuit.Clean(c)
	switch {
	case e != api.OK:
		return e
	case !clean:
		return api.ErrBack
	case c.Qubits != s.N:
		return api.ErrArg
	}
	return api.OK
}
