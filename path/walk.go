package path

import (
	"cubit/amp"
	"cubit/api"
	"cubit/bits"
	"cubit/gate"
	"cubit/ring"
)

// A bundle is all paths that have come to one basis state: however they came, the same ways lead on from there, so the sum of their amplitudes goes on as one. That is sum, turned by the power of w that has gathered since the last halving. No sum is refused: there are at most 2^16 paths, each a power of w over the square root of 2 to the power of at most 16.
type bundle struct {
	at    uint64
	sum   api.Amp
	power int
}

// total is the sum of the paths' amplitudes.
func (b bundle) total() api.Amp {
	a, _ := amp.Turn(b.sum, b.power)
	return a
}

// An entry is one of a gate's matrix that isn't nought: flip is the bits in which its row differs from its column, and it is w to the power over the square root of 2 to the power half.
type entry struct {
	flip        uint64
	power, half int
}

// along is what the entry makes of a bundle's amplitude.
func (n entry) along(b bundle) api.Amp {
	r, _ := ring.Turn(b.sum.R, b.power+n.power)
	a, _ := amp.Make(r, b.sum.K+n.half)
	return a
}

// A table is a gate's matrix, column by column.
type table struct {
	columns [][]entry
	halves  bool
}

// tables are those of a circuit's gates, by name: a circuit has many operations of few names.
type tables map[string]table

// of is the gate's table.
func (t tables) of(name string) table {
	found, ok := t[name]
	if !ok {
		found = tableOf(name)
		t[name] = found
	}
	return found
}

// tableOf is laid out from the gate's matrix. Of a gate that doesn't halve no entry is over the square root of 2.
func tableOf(name string) table {
	m, _ := gate.Matrix(name)
	t := table{columns: make([][]entry, len(m))}
	for x, row := range m {
		for y, a := range row {
			if a == (api.Amp{}) {
				continue
			}
			power, _ := ring.Order(a.R, api.Ring{A: 1})
			t.columns[y] = append(t.columns[y], entry{uint64(x ^ y), power, a.K})
			t.halves = t.halves || a.K > 0
		}
	}
	return t
}

// laid is the table with each flip moved to the qubits' places.
func (t table) laid(qubits []int) [][]entry {
	columns := make([][]entry, len(t.columns))
	for y, column := range t.columns {
		for _, n := range column {
			n.flip, _ = bits.Put(0, qubits, n.flip)
			columns[y] = append(columns[y], n)
		}
	}
	return columns
}

// ends are all paths that begin at a basis state, at their ends, no two bundles at one.
func ends(c api.Circuit, from uint64) []bundle {
	list := []bundle{{at: from, sum: api.Amp{R: api.Ring{A: 1}}}}
	known := tables{}
	for _, op := range c.Ops {
		t := known.of(op.Name)
		if t.halves {
			list = forked(list, t.laid(op.Qubits), op.Qubits)
		} else {
			move(list, t.laid(op.Qubits), op.Qubits)
		}
	}
	return list
}

// move leads each bundle on by a gate that doesn't halve: one way leads on from each basis state, and no two to the same.
func move(list []bundle, columns [][]entry, qubits []int) {
	for j, b := range list {
		y, _ := bits.Pick(b.at, qubits)
		n := columns[y][0]
		list[j].at, list[j].power = b.at^n.flip, b.power+n.power
	}
}

// forked is the bundles behind a gate that halves, those that meet put together.
func forked(list []bundle, columns [][]entry, qubits []int) []bundle {
	var next []bundle
	where := map[uint64]int{}
	for _, b := range list {
		y, _ := bits.Pick(b.at, qubits)
		for _, n := range columns[y] {
			at := b.at ^ n.flip
			j, met := where[at]
			if !met {
				j = len(next)
				where[at] = j
				next = append(next, bundle{at: at})
			}
			next[j].sum, _ = amp.Add(next[j].sum, n.along(b))
		}
	}
	return next
}
