package flat

import (
	"slices"
	"strconv"

	"cubit/api"
	"cubit/circuit"
	"cubit/parse"
)

// mostBits is how many bits a register has at most that Show tells: so each of its values is a number that can be written.
const mostBits = 32

// Show: the text of a program that is read as this circuit.
func Show(c api.Circuit) (string, api.Errno) {
	if _, e := circuit.Check(c); e != api.OK {
		return "", e
	}
	registers := cut(c)
	rows := declarations(c.Qubits, registers)
	for _, op := range c.Ops {
		asked := under(op.Mask, registers)
		if len(asked) > api.MaxDepth {
			return "", api.ErrDeep
		}
		rows = append(rows, conditions(op, asked)...)
		rows = append(rows, statement(op, registers))
	}
	return parse.Show(rows) // the rows are right: they can be too long alone
}

// A register is bits from first on.
type register struct {
	name        string
	first, size int
}

func (r register) mask() uint64 { return (uint64(1)<<r.size - 1) << r.first }

// cut is a circuit's bits in registers of which each Mask has all bits or none.
func cut(c api.Circuit) []register {
	var edges uint64 // bit j: some Mask has one alone of the bits j - 1 and j
	for _, op := range c.Ops {
		edges |= op.Mask ^ op.Mask<<1
	}
	var list []register
	for bit := range c.Bits {
		last := len(list) - 1
		if bit == 0 || edges>>bit&1 == 1 || list[last].size == mostBits {
			list = append(list, register{"c" + strconv.Itoa(last+1), bit, 1})
		} else {
			list[last].size++
		}
	}
	return list
}

func declarations(qubits int, registers []register) []api.Row {
	var rows []api.Row
	if qubits > 0 {
		rows = append(rows, api.Row{Kind: "qubits", Name: "q", Num: qubits})
	}
	for _, r := range registers {
		rows = append(rows, api.Row{Kind: "bits", Name: r.name, Num: r.size})
	}
	return rows
}

// under is the registers whose bits are in the Mask.
func under(mask uint64, registers []register) []register {
	var list []register
	for _, r := range registers {
		if mask&r.mask() != 0 {
			list = append(list, r)
		}
	}
	return list
}

// conditions are the ifs ahead of an operation, each with all that is behind it in its body.
func conditions(op api.Op, asked []register) []api.Row {
	var rows []api.Row
	for j, r := range asked {
		value := (op.Value & r.mask()) >> r.first
		rows = append(rows, api.Row{Kind: "if", Name: r.name, Num: int(value), Rows: len(asked) - j})
	}
	return rows
}

// statement is an operation without its condition.
func statement(op api.Op, registers []register) api.Row {
	var args []api.Arg
	for _, q := range op.Qubits {
		args = append(args, api.Arg{Name: "q", Index: q})
	}
	switch op.Kind {
	case api.OpMeasure:
		return api.Row{Kind: "measure", Args: append(args, argument(op.Bit, registers))}
	case api.OpReset:
		return api.Row{Kind: "reset", Args: args}
	}
	return api.Row{Kind: "use", Name: op.Name, Args: args}
}

// argument is a bit by its register: a checked circuit has each that it names.
func argument(bit int, registers []register) api.Arg {
	r := registers[slices.IndexFunc(registers, func(r register) bool { return bit < r.first+r.size })]
	return api.Arg{Name: r.name, Index: bit - r.first}
}
