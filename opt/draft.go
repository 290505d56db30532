package opt

import (
	"slices"
	"strings"

	"cubit/api"
	"cubit/gate"
)

// A draft is a circuit that the rules work on, in memory of its own.
type draft struct {
	qubits, bits int
	parts        []part
	gates        map[string]kind
}

// A part is an operation with its qubits and the bit that it measures into as sets of bits, since these are asked far more often than they change.
type part struct {
	op      api.Op
	touches uint64
	writes  uint64
	kind
}

// A kind is what the rules ask of a gate. It is kept by name: each question to package gate lays out all gates anew, and a circuit has many operations of few names.
type kind struct {
	inverse  string
	turn     int // 0: no turning gate
	from, to int // the places, from ahead of to, whose qubits may be exchanged
}

func draftOf(c api.Circuit) *draft {
	d := &draft{qubits: c.Qubits, bits: c.Bits, gates: map[string]kind{}}
	d.parts = make([]part, len(c.Ops))
	for j, op := range c.Ops {
		op.Name = strings.Clone(op.Name)
		op.Qubits = slices.Clone(op.Qubits)
		d.parts[j] = d.part(op)
	}
	return d
}

func (d *draft) circuit() api.Circuit {
	c := api.Circuit{Qubits: d.qubits, Bits: d.bits}
	for _, p := range d.parts {
		c.Ops = append(c.Ops, p.op)
	}
	return c
}

func (d *draft) part(op api.Op) part {
	p := part{op: op}
	for _, q := range op.Qubits {
		p.touches |= 1 << q
	}
	switch op.Kind {
	case api.OpGate:
		p.kind = d.kindOf(op.Name)
	case api.OpMeasure:
		p.writes = 1 << op.Bit
	}
	return p
}

func (d *draft) kindOf(name string) kind {
	k, ok := d.gates[name]
	if !ok {
		k.inverse, _ = gate.Inverse(name) // circuit.Check has taken the name
		k.turn = turnOf(name)
		k.from, k.to = exchangeable(name)
		d.gates[name] = k
	}
	return k
}

// neighbour is the first neighbour of operation j behind it. Whatever comes first in the way of j is that neighbour, or it hides all that stands behind.
func (d *draft) neighbour(j int) (int, bool) {
	a := &d.parts[j]
	for k := j + 1; k < len(d.parts); k++ {
		b := &d.parts[k]
		if a.touches&b.touches != 0 || a.op.Mask&b.writes != 0 {
			return k, a.alike(b)
		}
	}
	return 0, false
}

// alike: are both gates on the same set of qubits, under the same condition?
func (a *part) alike(b *part) bool {
	return a.op.Kind == api.OpGate && b.op.Kind == api.OpGate && a.touches == b.touches &&
		a.op.If == b.op.If && a.op.Mask == b.op.Mask && a.op.Value == b.op.Value
}

// asGood: are the qubits of b, which are the same set, as good for a's gate? Where they stand as a's do outside the places that may be exchanged, those within are the same set too.
func (a *part) asGood(b *part) bool {
	for place, q := range a.op.Qubits {
		if (place < a.from || place >= a.to) && q != b.op.Qubits[place] {
			return false
		}
	}
	return true
}

// replace takes out operation j and those behind it, which are told rising, and puts the gate of this name in the place of j; none, if the name is empty.
func (d *draft) replace(name string, j int, behind ...int) {
	for _, k := range slices.Backward(behind) {
		d.parts = slices.Delete(d.parts, k, k+1)
	}
	if name == "" {
		d.parts = slices.Delete(d.parts, j, j+1)
		return
	}
	op := d.parts[j].op
	op.Name = name
	d.parts[j] = d.part(op)
}
