package flat

import (
	"slices"

	"cubit/api"
)

// declare looks at a register's row. All of its sort have so many qubits or bits up to here, and may have limit.
func (l *looker) declare(row api.Row, sort int, all *int, limit int) api.Errno {
	switch {
	case l.names[row.Name].sort != 0:
		return api.ErrName
	case row.Num < 1:
		return api.ErrIndex
	case row.Num > limit-*all: // the sum itself may be beyond all numbers
		return api.ErrLong
	}
	l.names[row.Name] = meaning{sort: sort, first: *all, size: row.Num}
	*all += row.Num
	return api.OK
}

func (l *looker) define(row api.Row, body []api.Row, inside stand) api.Errno {
	if l.names[row.Name].sort != 0 {
		return api.ErrName
	}
	if len(row.Args) == 0 {
		return api.ErrArity
	}
	l.params, l.depth = make(map[string]int, len(row.Args)), 1
	for j, arg := range row.Args {
		if arg.Index != -1 {
			return api.ErrIndex
		}
		l.params[arg.Name] = j
	}
	if len(l.params) < len(row.Args) {
		return api.ErrSame
	}
	l.names[row.Name] = meaning{sort: begunGate}
	parts, e := l.body(body, inside)
	l.names[row.Name] = meaning{sort: definedGate, size: len(row.Args), depth: l.depth, body: parts}
	return e
}

func (l *looker) repeat(row api.Row, body []api.Row, at, inside stand) (part, api.Errno) {
	if row.Num < 0 {
		return part{}, api.ErrIndex
	}
	parts, e := l.body(body, inside)
	return part{at: at, times: row.Num, body: parts}, e
}

// when looks at an if. One that can't be met beside those around it is a repeat of no times.
func (l *looker) when(row api.Row, body []api.Row, at, inside stand) (part, api.Errno) {
	r := l.names[row.Name]
	if r.sort != bitRegister {
		return part{}, api.ErrName
	}
	if row.Num < 0 || uint64(row.Num)>>r.size != 0 {
		return part{}, api.ErrIndex
	}
	mask, value := (uint64(1)<<r.size-1)<<r.first, uint64(row.Num)<<r.first
	times := 1
	if at.mask&mask != 0 && at.value&mask != value {
		times = 0
	}
	inside.mask |= mask
	inside.value |= value
	parts, e := l.body(body, inside)
	return part{at: at, times: times, body: parts}, e
}

func (l *looker) use(row api.Row, at stand) (part, api.Errno) {
	g := l.names[row.Name]
	switch {
	case g.sort == begunGate: // no other one can be: definitions aren't nested
		return part{}, api.ErrLoop
	case g.sort != ownGate && g.sort != definedGate:
		return part{}, api.ErrGate
	case len(row.Args) != g.size:
		return part{}, api.ErrArity
	}
	qubits := make([]int, len(row.Args))
	for j, arg := range row.Args {
		number, e := l.qubit(arg, at)
		if e != api.OK {
			return part{}, e
		}
		qubits[j] = number
	}
	if twice(qubits) {
		return part{}, api.ErrSame
	}
	if at.inGate {
		l.depth = max(l.depth, g.depth+1)
		if l.depth > api.MaxDepth {
			return part{}, api.ErrDeep
		}
	}
	if g.sort == ownGate {
		return part{at: at, op: api.Op{Kind: api.OpGate, Name: row.Name, Qubits: qubits}}, api.OK
	}
	return part{at: at, op: api.Op{Qubits: qubits}, times: 1, body: g.body}, api.OK
}

func (l *looker) measure(row api.Row, at stand) (part, api.Errno) {
	if len(row.Args) != 2 {
		return part{}, api.ErrArity
	}
	qubit, e := l.element(row.Args[0], qubitRegister)
	if e != api.OK {
		return part{}, e
	}
	bit, e := l.element(row.Args[1], bitRegister)
	return part{at: at, op: api.Op{Kind: api.OpMeasure, Qubits: []int{qubit}, Bit: bit}}, e
}

func (l *looker) reset(row api.Row, at stand) (part, api.Errno) {
	if len(row.Args) != 1 {
		return part{}, api.ErrArity
	}
	qubit, e := l.element(row.Args[0], qubitRegister)
	return part{at: at, op: api.Op{Kind: api.OpReset, Qubits: []int{qubit}}}, e
}

// qubit is the number of the qubit or parameter that a use names.
func (l *looker) qubit(arg api.Arg, at stand) (int, api.Errno) {
	if !at.inGate {
		return l.element(arg, qubitRegister)
	}
	if arg.Index != -1 {
		return 0, api.ErrIndex
	}
	number, ok := l.params[arg.Name]
	if !ok {
		return 0, api.ErrName
	}
	return number, api.OK
}

// element is the number, in the circuit, of what is named in a register of that sort.
func (l *looker) element(arg api.Arg, sort int) (int, api.Errno) {
	r := l.names[arg.Name]
	if r.sort != sort {
		return 0, api.ErrName
	}
	if arg.Index < 0 || arg.Index >= r.size {
		return 0, api.ErrIndex
	}
	return r.first + arg.Index, api.OK
}

// twice: does a number stand there twice? A definition may have any number of parameters, so the numbers aren't held against each other one by one.
func twice(list []int) bool {
	sorted := slices.Clone(list)
	slices.Sort(sorted)
	return len(slices.Compact(sorted)) < len(list)
}
