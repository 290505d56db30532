package flat_test

import (
	"slices"
	"strings"
	"testing"
	"unsafe"

	"cubit/api"
	"cubit/flat"
)

// spare is what stands in the room behind lists, and must stay there.
const spare = 77

var (
	spareArg = api.Arg{Name: "spare", Index: spare}
	spareRow = api.Row{Kind: "use", Name: "behind", Args: []api.Arg{spareArg}, Num: spare, Rows: spare, Place: spare}
	spareOp  = api.Op{Kind: spare, Name: "behind", Qubits: []int{spare}, Bit: spare, If: true, Mask: spare, Value: spare}
)

// roomyRows is rows in memory of their own, with room behind each list and marks in it.
func roomyRows(rows []api.Row) []api.Row {
	list := make([]api.Row, 0, len(rows)+2)
	for _, row := range rows {
		row.Kind, row.Name = strings.Clone(row.Kind), strings.Clone(row.Name)
		args := make([]api.Arg, 0, len(row.Args)+2)
		for _, a := range row.Args {
			args = append(args, arg(strings.Clone(a.Name), a.Index))
		}
		row.Args = append(args, spareArg, spareArg)[:len(args)]
		list = append(list, row)
	}
	return append(list, spareRow, spareRow)[:len(rows)]
}

func sameRow(a, b api.Row) bool {
	return a.Kind == b.Kind && a.Name == b.Name && slices.Equal(a.Args, b.Args) && a.Num == b.Num && a.Rows == b.Rows && a.Place == b.Place
}

// rowsStay asks that roomyRows' rows are as they were, their spare room included.
func rowsStay(t *testing.T, rows, want []api.Row) {
	t.Helper()
	if !slices.EqualFunc(rows, want, sameRow) {
		t.Errorf("%v became %v", someRows(want), someRows(rows))
	}
	for _, row := range rows {
		if !slices.Equal(row.Args[len(row.Args):cap(row.Args)], []api.Arg{spareArg, spareArg}) {
			t.Errorf("the room behind the Args of %v is changed", row)
		}
	}
	if room := rows[len(rows):cap(rows)]; len(room) != 2 || !sameRow(room[0], spareRow) || !sameRow(room[1], spareRow) {
		t.Errorf("the room behind the rows is changed: %v", room)
	}
}

// roomy is a circuit in memory of its own, with room behind each list and marks in it.
func roomy(c api.Circuit) api.Circuit {
	ops := make([]api.Op, 0, len(c.Ops)+2)
	for _, op := range c.Ops {
		op.Name = strings.Clone(op.Name)
		op.Qubits = append(append(make([]int, 0, len(op.Qubits)+2), op.Qubits...), spare, spare)[:len(op.Qubits)]
		ops = append(ops, op)
	}
	c.Ops = append(ops, spareOp, spareOp)[:len(ops)]
	return c
}

// stays asks that roomy's circuit is as it was, its spare room included.
func stays(t *testing.T, c, want api.Circuit) {
	t.Helper()
	if !same(c, want) {
		t.Errorf("%v became %v", few(want), few(c))
	}
	for _, op := range c.Ops {
		if !slices.Equal(op.Qubits[len(op.Qubits):cap(op.Qubits)], []int{spare, spare}) {
			t.Errorf("the room behind the Qubits of %v is changed", op)
		}
	}
	if room := c.Ops[len(c.Ops):cap(c.Ops)]; len(room) != 2 || !sameOp(room[0], spareOp) || !sameOp(room[1], spareOp) {
		t.Errorf("the room behind the Ops is changed: %v", room)
	}
}

// spoilCircuit writes over all that a circuit's lists hold, with their spare room.
func spoilCircuit(c api.Circuit) {
	for _, op := range c.Ops {
		spoilList(op.Qubits)
	}
	ops := c.Ops[:cap(c.Ops)]
	for j := range ops {
		ops[j] = api.Op{Kind: -9, Name: "spoilt", Bit: -9, If: true, Mask: 9, Value: 9}
	}
}

func spoilList(list []int) {
	list = list[:cap(list)]
	for j := range list {
		list[j] = -9
	}
}

// spoilRows writes over all that rows hold, with their spare room.
func spoilRows(rows []api.Row) {
	for _, row := range rows {
		args := row.Args[:cap(row.Args)]
		for j := range args {
			args[j] = arg("spoilt", -9)
		}
	}
	rows = rows[:cap(rows)]
	for j := range rows {
		rows[j] = api.Row{Kind: "spoilt", Name: "spoilt", Num: -9, Rows: -9, Place: -9}
	}
}

const program = "qubits q 3; bits c 2; gate g a b { cx a b; repeat 2 { h b; } } gate k b a { g a b; x a; } repeat 2 { k q[0] q[2]; if c 1 { ccx q[0] q[1] q[2]; g q[1] q[0]; } } measure q[0] c[1]; reset q[2]; x q[1];"

// given are rows for these tests: some that are taken, and some that are refused.
func given(t *testing.T) [][]api.Row {
	s := source(21)
	list := [][]api.Row{nil, parsed(t, program)}
	for _, text := range []string{"qubits h 1;", "qubits q 1; x q[0]; x q[1];", "gate g a { g a; }", "qubits q 1; repeat 5000 { x q[0]; }", "qubits q 1; gate g a { h a; } repeat 40 { x q[0]; g q[0]; }", "qubits q 1; repeat 4096 { x q[0]; }", "qubits q 2; cx q[1] q[1];", "gate g a a { }"} {
		list = append(list, parsed(t, text))
	}
	for range 40 {
		rows := s.program()
		list = append(list, rows, s.spoil(rows))
	}
	return append(list, []api.Row{{Kind: "repeat", Rows: 1}}, []api.Row{{Kind: "foo"}}, []api.Row{{Kind: "if", Rows: -1}, {Kind: "use"}})
}

// Rule 5: the rows that are handed in stay, with their Args and the room behind them.
func TestRowsHandedInStay(t *testing.T) {
	for _, rows := range given(t) {
		mine := roomyRows(rows)
		flat.Flat(mine)
		rowsStay(t, mine, rows)
	}
}

// Rule 5: a circuit that is handed in stays, with its Ops and Qubits and the room behind them.
func TestCircuitsHandedInStay(t *testing.T) {
	s := source(22)
	list := []api.Circuit{of(0, 0), of(1, 0, gate("foo", 0)), of(2, 0, gate("cx", 1, 1)), long(t, 65536), long(t, 65537), of(1, 64, when(gate("x", 0), 0x5555555555555555, 0), when(gate("x", 0), ^uint64(0), 0))}
	for j := range 50 {
		list = append(list, s.circuit(j, j))
	}
	for _, c := range list {
		mine := roomy(c)
		text, e := flat.Show(mine)
		again, f := flat.Show(mine)
		if text != again || e != f {
			t.Errorf("Show tells %d, and then %d", e, f)
		}
		stays(t, mine, c)
		kept := strings.Clone(text)
		for _, op := range mine.Ops {
			if inside(text, op.Name) || inside(op.Name, text) {
				t.Errorf("the text shares memory with %v", op)
			}
		}
		spoilCircuit(mine)
		if text != kept {
			t.Errorf("%q became %q", kept, text)
		}
	}
}

// Rule 5: a circuit that is answered is the caller's own: new at each call, and nothing that was handed in.
func TestCircuitsAreTheCallers(t *testing.T) {
	tried := 0
	for _, rows := range given(t) {
		mine := roomyRows(rows)
		first, place, e := flat.Flat(mine)
		second, there, f := flat.Flat(mine)
		if e != f || place != there || !same(first, second) {
			t.Errorf("Flat tells %d, and then %d", e, f)
		}
		if e != api.OK || len(first.Ops) == 0 {
			continue
		}
		tried++
		want := roomy(second)
		spoilCircuit(first)
		rowsStay(t, mine, rows)
		if !same(second, want) {
			t.Errorf("two answers to %v share memory", someRows(rows))
		}
		if again, _, _ := flat.Flat(mine); !same(again, want) {
			t.Errorf("behind a spoilt answer comes %v", few(again))
		}
		spoilRows(mine)
		if !same(second, want) {
			t.Errorf("the answer to %v shares memory with what was handed in", someRows(rows))
		}
	}
	first, _, _ := flat.Read(program)
	second, _, _ := flat.Read(program)
	want := roomy(second)
	spoilCircuit(first)
	if again, _, _ := flat.Read(program); !same(second, want) || !same(again, want) {
		t.Error("what two calls of Read tell shares memory")
	}
	if tried < 30 {
		t.Errorf("%d tried alone", tried)
	}
}

// Rule 5: no two lists of one answer share memory, also where operations come of one row.
func TestListsAreApart(t *testing.T) {
	c, _, _ := flat.Read(program)
	for j := range c.Ops {
		d, _, e := flat.Read(program)
		want := roomy(d)
		spoilList(d.Ops[j].Qubits)
		d.Ops[j].Qubits, want.Ops[j].Qubits = nil, nil
		if e != api.OK || !same(d, want) {
			t.Errorf("the Qubits of operation %d are not its own: %v", j, d)
		}
	}
	// Rows that share their Args are as good as others.
	args := []api.Arg{arg("q", 2), arg("q", 0), arg("q", 1)}
	rows := []api.Row{{Kind: "qubits", Name: "q", Num: 3}, use("ccx", args...), use("cx", args[:2]...), use("x", args[1:2]...), use("cx", args[1:]...)}
	flattens(t, rows, of(3, 0, gate("ccx", 2, 0, 1), gate("cx", 2, 0), gate("x", 0), gate("cx", 0, 1)))
}

// inside: does s stand in the memory of text?
func inside(s, text string) bool {
	begin, at := uintptr(unsafe.Pointer(unsafe.StringData(text))), uintptr(unsafe.Pointer(unsafe.StringData(s)))
	return len(s) > 0 && len(text) > 0 && begin <= at && at < begin+uintptr(len(text))
}

// Rule 5: the names of an answer are no pieces of what was handed in.
func TestNamesAreNoPieces(t *testing.T) {
	text := strings.Clone(program)
	c, _, _ := flat.Read(text)
	for _, op := range c.Ops {
		if inside(op.Name, text) {
			t.Errorf("the Name of %v is a piece of the text", op)
		}
	}
	name := strings.Clone("swap")
	rows := []api.Row{{Kind: "qubits", Name: "q", Num: 2}, use(name, arg("q", 0), arg("q", 1))}
	c, _, e := flat.Flat(rows)
	if e != api.OK || len(c.Ops) != 1 || inside(c.Ops[0].Name, name) {
		t.Errorf("%v, %d: the Name is that of the row", c, e)
	}
	inGate := slices.Concat(rows[:1], definition("g", "a b", use(name, par("a"), par("b"))), []api.Row{use("g", arg("q", 1), arg("q", 0))})
	c, _, e = flat.Flat(inGate)
	if e != api.OK || len(c.Ops) != 1 || inside(c.Ops[0].Name, name) {
		t.Errorf("%v, %d: the Name is that of the row", c, e)
	}
}

// Rule 6: nothing is kept from call to call: no name, no register, no definition.
func TestNothingIsKept(t *testing.T) {
	want, _, e := flat.Read(program)
	if e != api.OK {
		t.Fatal(e)
	}
	shownWant := back(t, want)
	for _, rows := range given(t) {
		flat.Flat(rows)
		flat.Show(of(1, 64, when(gate("x", 0), 0x5555555555555555, 0)))
		if c, _, e := flat.Read(program); e != api.OK || !same(c, want) {
			t.Errorf("behind %v comes %v, %d", someRows(rows), few(c), e)
		}
		if text, e := flat.Show(want); e != api.OK || text != shownWant {
			t.Errorf("behind %v is told %q, %d", someRows(rows), text, e)
		}
	}
	refusedAt(t, "qubits p 1; @g p[0];", api.ErrGate)
	refusedAt(t, "@x q[0];", api.ErrName)
}
