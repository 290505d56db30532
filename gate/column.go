package gate

import (
	"cubit/amp"
	"cubit/api"
)

// An entry is the one in this row of a column: w to the power over the square root of 2 to the power half.
type entry struct {
	row, power, half int
}

// value is the entry as an amplitude. A power of w can't be halved, so this is its one form.
func (e entry) value() api.Amp {
	a, _ := amp.Turn(api.Amp{R: api.Ring{A: 1}, K: e.half}, e.power)
	return a
}

// phase leaves what there is, and turns a one.
func phase(power, y int) []entry { return []entry{{row: y, power: power * y}} }

// turn leaves what there is, and turns both.
func turn(power, y int) []entry { return []entry{{row: y, power: power}} }

// flip makes a one of a nought, turned, and a nought of a one, turned as far the other way.
func flip(power, y int) []entry { return []entry{{row: 1 - y, power: power * (1 - 2*y)}} }

// hadamard leads to both, with the sign turned from one to one. It has no gates to set apart.
func hadamard(_, y int) []entry {
	return []entry{{row: 0, half: 1}, {row: 1, power: 4 * y, half: 1}}
}

// halfFlip done twice is a flip: what stays is turned one way, what is flipped as far the other way.
func halfFlip(power, y int) []entry {
	stays := power * (1 - 2*y)
	return []entry{{row: 0, power: stays, half: 1}, {row: 1, power: -stays, half: 1}}
}

// exchange exchanges two qubits, and turns where they are unlike.
func exchange(power, y int) []entry {
	if y == 0 || y == 3 {
		return []entry{{row: y}}
	}
	return []entry{{row: 3 - y, power: power}}
}

// entries are those of column y that aren't nought, their rows rising: where not all controls are set, y leads to itself.
func (k kind) entries(y int) []entry {
	set := 1<<k.controls - 1
	if y&set != set {
		return []entry{{row: y}}
	}
	found := k.column(k.power, y>>k.controls)
	for j := range found {
		found[j].row = found[j].row<<k.controls | set
	}
	return found
}

// Matrix is the gate's matrix, row by row.
func Matrix(name string) ([][]api.Amp, api.Errno) {
	k, ok := kinds()[name]
	if !ok {
		return nil, api.ErrGate
	}
	m := noughts(1<<k.qubits, 1<<k.qubits)
	for y := range m {
		for _, e := range k.entries(y) {
			m[e.row][y] = e.value()
		}
	}
	return m, api.OK
}

// Column is what the gate's column y has that isn't nought: the rows, rising, and the entries there.
func Column(name string, y int) ([]int, []api.Amp, api.Errno) {
	k, ok := kinds()[name]
	if !ok {
		return nil, nil, api.ErrGate
	}
	if y < 0 || y >= 1<<k.qubits {
		return nil, nil, api.ErrArg
	}
	var rows []int
	var values []api.Amp
	for _, e := range k.entries(y) {
		rows = append(rows, e.row)
		values = append(values, e.value())
	}
	return rows, values, api.OK
}
