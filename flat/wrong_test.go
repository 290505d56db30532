package flat_test

import (
	"math"
	"slices"
	"strconv"
	"strings"
	"testing"

	"cubit/api"
	"cubit/flat"
)

func arg(name string, index int) api.Arg { return api.Arg{Name: name, Index: index} }

// par is an argument without an index.
func par(name string) api.Arg { return arg(name, -1) }

func use(name string, args ...api.Arg) api.Row { return api.Row{Kind: "use", Name: name, Args: args} }

// with is a row and its body.
func with(row api.Row, body ...api.Row) []api.Row {
	row.Rows = len(body)
	return append([]api.Row{row}, body...)
}

func again(n int, body ...api.Row) []api.Row { return with(api.Row{Kind: "repeat", Num: n}, body...) }

func only(name string, n int, body ...api.Row) []api.Row {
	return with(api.Row{Kind: "if", Name: name, Num: n}, body...)
}

func definition(name string, params string, body ...api.Row) []api.Row {
	row := api.Row{Kind: "gate", Name: name}
	for _, p := range strings.Fields(params) {
		row.Args = append(row.Args, par(p))
	}
	return with(row, body...)
}

// placed is the rows with a place of its own for each: they needn't rise.
func placed(rows []api.Row) []api.Row {
	rows = slices.Clone(rows)
	for j := range rows {
		rows[j].Place = 1000 - 37*j
	}
	return rows
}

// faulty asks for an error at the row of that number.
func faulty(t *testing.T, rows []api.Row, at int, e api.Errno) {
	t.Helper()
	rows = placed(rows)
	refusedRows(t, rows, e, rows[at].Place)
}

// declared are rows with two registers of each sort and two gates; behind are rows of these.
func declared(behind ...api.Row) []api.Row {
	return slices.Concat([]api.Row{
		{Kind: "qubits", Name: "q", Num: 3}, {Kind: "qubits", Name: "p", Num: 1}, {Kind: "bits", Name: "c", Num: 2}, {Kind: "bits", Name: "d", Num: 1},
	}, definition("f", "a", use("x", par("a"))), definition("g", "a b", use("cx", par("a"), par("b"))), behind)
}

// ahead is how many rows declared has by itself.
var ahead = len(declared())

// bare are rows of each Kind without a body that are right behind declared.
func bare() []api.Row {
	return []api.Row{
		{Kind: "qubits", Name: "new", Num: 1}, {Kind: "bits", Name: "new", Num: 1}, use("h", arg("q", 0)),
		{Kind: "measure", Args: []api.Arg{arg("q", 0), arg("c", 0)}}, {Kind: "reset", Args: []api.Arg{arg("q", 0)}},
	}
}

// bodied are rows of each Kind with a body that are right behind declared.
func bodied() []api.Row {
	return []api.Row{{Kind: "gate", Name: "new", Args: []api.Arg{par("a")}}, {Kind: "repeat", Num: 2}, {Kind: "if", Name: "c", Num: 1}}
}

// P12.1: Kinds that are none, wherever they stand and whatever they have.
func TestKindsThatAreNone(t *testing.T) {
	for _, kind := range []string{"", "foo", "Use", "USE", "qubit", " use", "use ", "use\x00", "uses", "bit", "gates", "repeats", "h", "while", "\xff", "if\n"} {
		bad := api.Row{Kind: kind, Name: "h", Args: []api.Arg{arg("q", 0)}, Num: 1}
		faulty(t, []api.Row{bad}, 0, api.ErrSyntax)
		faulty(t, declared(bad), ahead, api.ErrSyntax)
		faulty(t, declared(again(1, bad)...), ahead+1, api.ErrSyntax)
		faulty(t, declared(again(0, bad)...), ahead+1, api.ErrSyntax)
		faulty(t, declared(definition("k", "a", bad)...), ahead+1, api.ErrSyntax)
		bad.Rows = 1
		faulty(t, declared(bad, use("h", arg("q", 0))), ahead, api.ErrSyntax)
	}
}

// P12.1: Rows that aren't 0 at a Kind without a body, also where there are as many behind.
func TestRowsWithoutABody(t *testing.T) {
	for _, row := range bare() {
		flattenable(t, declared(row))
		for _, n := range []int{1, 2, -1, 3, math.MaxInt, math.MinInt} {
			row.Rows = n
			faulty(t, declared(row, use("x", arg("q", 0)), use("x", arg("q", 0))), ahead, api.ErrSyntax)
			faulty(t, declared(row), ahead, api.ErrSyntax)
		}
	}
}

// flattenable asks that the rows are taken.
func flattenable(t *testing.T, rows []api.Row) api.Circuit {
	t.Helper()
	c, place, e := flat.Flat(rows)
	if place != 0 || e != api.OK {
		t.Errorf("Flat(%v): %d, %d", someRows(rows), place, e)
	}
	return c
}

// P12.1: Rows below 0, more than there are behind, and more than the body has left in which the row stands.
func TestRowsOutsideTheirRange(t *testing.T) {
	x := use("x", arg("q", 0))
	for _, row := range bodied() {
		in := x
		if row.Kind == "gate" {
			in = use("x", par("a"))
		}
		for _, n := range []int{-1, -2, math.MinInt, 1, 2, math.MaxInt} {
			row.Rows = n
			faulty(t, declared(row), ahead, api.ErrSyntax)
		}
		for n := range 4 {
			row.Rows = n
			flattenable(t, slices.Concat(declared(row), times(n, in)))
			row.Rows++
			faulty(t, slices.Concat(declared(row), times(n, in)), ahead, api.ErrSyntax)
			row.Rows = math.MaxInt
			faulty(t, slices.Concat(declared(row), times(n, in)), ahead, api.ErrSyntax)
		}
		if row.Kind == "gate" {
			continue
		}
		for left := range 3 {
			// The body around it has so many rows left, and the program more.
			row.Rows = left
			flattenable(t, declared(append(again(1, slices.Concat([]api.Row{row}, times(left, x))...), x, x)...))
			row.Rows = left + 1
			faulty(t, declared(append(again(1, slices.Concat([]api.Row{row}, times(left, x))...), x, x)...), ahead+1, api.ErrSyntax)
			faulty(t, declared(append(again(1, only("c", 1, slices.Concat([]api.Row{row}, times(left, x))...)...), x, x)...), ahead+2, api.ErrSyntax)
		}
	}
	inner := api.Row{Kind: "repeat", Num: 1, Rows: 1}
	faulty(t, declared(append(definition("k", "a", inner), use("x", par("a")))...), ahead+1, api.ErrSyntax)
	faulty(t, []api.Row{{Kind: "repeat", Rows: 1}, {Kind: "repeat", Rows: 1}, {Kind: "repeat"}}, 1, api.ErrSyntax)
	flattens(t, []api.Row{{Kind: "repeat", Rows: 2}, {Kind: "repeat", Rows: 1}, {Kind: "repeat"}}, api.Circuit{})
	flattens(t, []api.Row{{Kind: "repeat", Rows: 2}, {Kind: "repeat"}, {Kind: "repeat"}}, api.Circuit{})
}

// deep is rows nested in so many repeats.
func deep(n int, rows ...api.Row) []api.Row {
	for range n {
		rows = again(1, rows...)
	}
	return rows
}

// P12.1: rows nested in MaxDepth, and in one more: in repeats, in ifs, in a definition.
func TestNestedDeep(t *testing.T) {
	x, in := use("x", arg("q", 0)), use("x", par("a"))
	if c := flattenable(t, declared(deep(32, x)...)); len(c.Ops) != 1 {
		t.Errorf("%v", c)
	}
	faulty(t, declared(deep(33, x)...), ahead+33, api.ErrDeep)
	faulty(t, declared(deep(40, x)...), ahead+33, api.ErrDeep)
	flattenable(t, declared(deep(33)...))
	faulty(t, declared(deep(34)...), ahead+33, api.ErrDeep)
	flattenable(t, declared(definition("k", "a", deep(31, in)...)...))
	faulty(t, declared(definition("k", "a", deep(32, in)...)...), ahead+33, api.ErrDeep)
	ifs := []api.Row{x}
	for range 32 {
		ifs = only("c", 1, ifs...)
	}
	if c := flattenable(t, declared(ifs...)); !same(c, of(4, 3, when(gate("x", 0), 3, 1))) {
		t.Errorf("%v", c)
	}
	faulty(t, declared(only("d", 1, ifs...)...), ahead+33, api.ErrDeep)
	faulty(t, declared(again(0, ifs...)...), ahead+33, api.ErrDeep)
	faulty(t, declared(only("c", 0, ifs...)...), ahead+33, api.ErrDeep)
	// Ahead of it are its form, and the rows ahead; behind it where it stands, and all else.
	faulty(t, declared(deep(33, api.Row{Kind: "foo"})...), ahead+33, api.ErrSyntax)
	faulty(t, declared(deep(33, api.Row{Kind: "use", Rows: 1}, x)...), ahead+33, api.ErrSyntax)
	faulty(t, declared(deep(33, api.Row{Kind: "repeat", Num: -1, Rows: -1})...), ahead+33, api.ErrSyntax)
	faulty(t, declared(deep(33, api.Row{Kind: "repeat", Num: -1, Rows: 1})...), ahead+33, api.ErrSyntax)
	for _, bad := range []api.Row{{Kind: "qubits"}, {Kind: "bits"}, {Kind: "gate"}, {Kind: "repeat", Num: -1}, {Kind: "if"}, {Kind: "use"}, {Kind: "measure"}, {Kind: "reset"}} {
		faulty(t, declared(deep(33, bad)...), ahead+33, api.ErrDeep)
		faulty(t, declared(definition("k", "a", deep(32, bad)...)...), ahead+33, api.ErrDeep)
		faulty(t, declared(append(deep(32, bad), deep(33, x)...)...), ahead+32, told[bad.Kind])
	}
	// One with a body may stand there, but nothing in it.
	text := "qubits q 1; " + strings.Repeat("repeat 1 { ", 32) + "x q[0]; " + strings.Repeat("} ", 32)
	comes(t, text, of(1, 0, gate("x", 0)))
}

// told is the first error of an empty row of each Kind that is nested, but for the Num of repeat, which is below 0.
var told = map[string]api.Errno{"qubits": api.ErrSyntax, "bits": api.ErrSyntax, "gate": api.ErrSyntax, "repeat": api.ErrIndex, "if": api.ErrName, "use": api.ErrGate, "measure": api.ErrArity, "reset": api.ErrArity}

// P12.1: qubits, bits and gate rows nested in each Kind with a body, right or wrong by themselves.
func TestDeclarationsNested(t *testing.T) {
	for _, row := range []api.Row{
		{Kind: "qubits", Name: "new", Num: 1}, {Kind: "bits", Name: "new", Num: 1}, {Kind: "gate", Name: "new", Args: []api.Arg{par("a")}},
		{Kind: "qubits", Name: "q", Num: -1}, {Kind: "bits", Name: "h", Num: 99}, {Kind: "gate", Name: "x"}, {Kind: "gate", Name: "k"},
	} {
		faulty(t, declared(again(1, row)...), ahead+1, api.ErrSyntax)
		faulty(t, declared(again(0, row)...), ahead+1, api.ErrSyntax)
		faulty(t, declared(only("c", 1, row)...), ahead+1, api.ErrSyntax)
		faulty(t, declared(definition("k", "a", row)...), ahead+1, api.ErrSyntax)
		faulty(t, declared(definition("k", "a", again(1, row)...)...), ahead+2, api.ErrSyntax)
		faulty(t, declared(again(1, only("d", 0, use("x", arg("q", 1)), row)...)...), ahead+3, api.ErrSyntax)
		faulty(t, declared(deep(32, row)...), ahead+32, api.ErrSyntax)
	}
	refusedAt(t, "repeat 1 { @bits b 1; }", api.ErrSyntax)
	refusedAt(t, "bits c 1; if c 1 { @qubits b 1; }", api.ErrSyntax)
	refusedAt(t, "gate g a { @gate k b { } }", api.ErrSyntax)
}

// P12.1: rows in a definition, also in a repeat of it, that are neither use nor repeat.
func TestOthersInDefinitions(t *testing.T) {
	for _, row := range []api.Row{
		{Kind: "if", Name: "c", Num: 1}, {Kind: "measure", Args: []api.Arg{arg("q", 0), arg("c", 0)}}, {Kind: "reset", Args: []api.Arg{arg("q", 0)}}, {Kind: "reset", Args: []api.Arg{par("a")}},
		{Kind: "if", Name: "nothing", Num: -1}, {Kind: "measure"}, {Kind: "reset"},
	} {
		faulty(t, declared(definition("k", "a", row)...), ahead+1, api.ErrSyntax)
		faulty(t, declared(definition("k", "a", use("x", par("a")), row)...), ahead+2, api.ErrSyntax)
		faulty(t, declared(definition("k", "a", again(1, row)...)...), ahead+2, api.ErrSyntax)
		faulty(t, declared(definition("k", "a", deep(31, row)...)...), ahead+32, api.ErrSyntax)
	}
	// Behind a definition they stand again.
	flattenable(t, declared(append(definition("k", "a", again(1)...), bare()[3], bare()[4])...))
}

// P12.1: names that are taken: by registers, by what is defined, by layer 8; and those that aren't.
func TestNamesTaken(t *testing.T) {
	taken := []string{"q", "p", "c", "d", "f", "g"}
	for _, f := range facts {
		taken = append(taken, f.name)
	}
	for _, name := range taken {
		faulty(t, declared(api.Row{Kind: "qubits", Name: name, Num: 1}), ahead, api.ErrName)
		faulty(t, declared(api.Row{Kind: "bits", Name: name, Num: 1}), ahead, api.ErrName)
		faulty(t, declared(definition(name, "a")...), ahead, api.ErrName)
		faulty(t, declared(definition(name, "a", use(name, par("a")))...), ahead, api.ErrName)
	}
	// Parameters take no names, and so don't Args of uses; other names are free, whatever they are.
	for _, name := range []string{"a", "b", "Q", "X", "H", "qq", "", " ", "use", "qubits", "if", "q[0]", "\xff", "cX", "k1"} {
		flattenable(t, declared(api.Row{Kind: "qubits", Name: name, Num: 1}, use("x", arg(name, 0))))
		flattenable(t, declared(append([]api.Row{{Kind: "bits", Name: name, Num: 1}}, only(name, 1)...)...))
		flattenable(t, declared(append(definition(name, "a", use("x", par("a"))), use(name, arg("q", 0)))...))
	}
	// From a gate's row on its name is taken.
	for _, kind := range []string{"qubits", "bits"} {
		faulty(t, append(definition("k", "a"), api.Row{Kind: kind, Name: "k", Num: 1}), 1, api.ErrName)
		faulty(t, append([]api.Row{{Kind: kind, Name: "k", Num: 1}}, definition("k", "a")...), 1, api.ErrName)
		faulty(t, []api.Row{{Kind: kind, Name: "k", Num: 1}, {Kind: "qubits", Name: "k", Num: 1}}, 1, api.ErrName)
		faulty(t, []api.Row{{Kind: kind, Name: "k", Num: 1}, {Kind: "bits", Name: "k", Num: 1}}, 1, api.ErrName)
	}
	faulty(t, slices.Concat(definition("k", "a"), definition("k", "b")), 1, api.ErrName)
	// In its own body the name is taken, and yet no gate that is defined: it can't be declared there, nor used.
	faulty(t, definition("k", "a", api.Row{Kind: "qubits", Name: "k", Num: 1}), 1, api.ErrSyntax)
	faulty(t, definition("k", "k", use("k", par("k"))), 1, api.ErrLoop)
	faulty(t, append(definition("k", "k", use("x", par("k"))), definition("k", "a")...), 2, api.ErrName)
}

// P12.1: registers of no qubits and of fewer, of one, of as many as can be together, and of one more.
func TestRegistersSizes(t *testing.T) {
	for _, kind := range []string{"qubits", "bits"} {
		register := func(name string, n int) api.Row { return api.Row{Kind: kind, Name: name, Num: n} }
		size := func(c api.Circuit) int {
			if kind == "bits" {
				return c.Bits
			}
			return c.Qubits
		}
		for _, n := range []int{0, -1, -64, math.MinInt} {
			faulty(t, []api.Row{register("r", n)}, 0, api.ErrIndex)
			faulty(t, []api.Row{register("other", 64), register("r", n)}, 1, api.ErrIndex)
		}
		for n := 1; n <= 64; n++ {
			if c := flattenable(t, []api.Row{register("r", n)}); size(c) != n || c.Qubits+c.Bits != n {
				t.Errorf("%s %d: %v", kind, n, c)
			}
			if n == 64 {
				break
			}
			if c := flattenable(t, []api.Row{register("r", n), register("other", 64-n)}); size(c) != 64 {
				t.Errorf("%s %d: %v", kind, n, c)
			}
			faulty(t, []api.Row{register("r", n), register("other", 65-n)}, 1, api.ErrLong)
		}
		for _, n := range []int{65, 66, 1 << 20, math.MaxInt32, math.MaxInt, math.MaxInt - 63, math.MaxInt - 64} {
			faulty(t, []api.Row{register("r", n)}, 0, api.ErrLong)
			faulty(t, []api.Row{register("r", 1), register("other", n)}, 1, api.ErrLong)
			faulty(t, []api.Row{register("r", 63), register("other", 1), register("third", n)}, 2, api.ErrLong)
		}
		var all []api.Row
		for j := range 64 {
			all = append(all, register("r"+strconv.Itoa(j), 1))
		}
		if c := flattenable(t, all); size(c) != 64 {
			t.Errorf("%v", c)
		}
		faulty(t, append(all, register("other", 1)), 64, api.ErrLong)
	}
	// Each sort by itself.
	flattens(t, []api.Row{{Kind: "qubits", Name: "q", Num: 64}, {Kind: "bits", Name: "c", Num: 64}}, of(64, 64))
	refusedAt(t, "qubits q 64; bits c 64; @qubits p 1;", api.ErrLong)
	refusedAt(t, "qubits q 64; bits c 64; @bits p 1;", api.ErrLong)
	refusedAt(t, "@qubits q 65;", api.ErrLong)
	refusedAt(t, "@bits b 0;", api.ErrIndex)
}

// P12.1: a definition's Args: none, with an Index, two of one Name.
func TestDefinitionsArgs(t *testing.T) {
	refusedAt(t, "@gate g { }", api.ErrArity)
	refusedAt(t, "@gate g a a { }", api.ErrSame)
	refusedAt(t, "@gate g a b a { }", api.ErrSame)
	refusedAt(t, "@gate g a b c d b { }", api.ErrSame)
	flattens(t, with(api.Row{Kind: "gate", Name: "g", Args: []api.Arg{par(""), par("A"), par("a")}}), api.Circuit{})
	for _, index := range []int{0, 1, -2, math.MaxInt, math.MinInt} {
		faulty(t, with(api.Row{Kind: "gate", Name: "g", Args: []api.Arg{arg("a", index)}}), 0, api.ErrIndex)
		faulty(t, with(api.Row{Kind: "gate", Name: "g", Args: []api.Arg{par("a"), par("b"), arg("c", index)}}), 0, api.ErrIndex)
		faulty(t, with(api.Row{Kind: "gate", Name: "g", Args: []api.Arg{par("a"), par("a"), arg("c", index)}}), 0, api.ErrIndex)
		faulty(t, with(api.Row{Kind: "gate", Name: "g", Args: []api.Arg{arg("a", index), arg("a", index)}}), 0, api.ErrIndex)
	}
	// Num isn't looked at.
	flattens(t, with(api.Row{Kind: "gate", Name: "g", Args: []api.Arg{par("a")}, Num: -5}), api.Circuit{})
}

// P12.1: how often a repeat may say.
func TestRepeatsNumbers(t *testing.T) {
	for _, n := range []int{-1, -2, math.MinInt} {
		faulty(t, declared(again(n)...), ahead, api.ErrIndex)
		faulty(t, declared(again(n, api.Row{Kind: "foo"})...), ahead, api.ErrIndex)
		faulty(t, declared(definition("k", "a", again(n, use("x", par("a")))...)...), ahead+1, api.ErrIndex)
	}
	for _, n := range []int{0, 1, 7} {
		if c := flattenable(t, declared(again(n, use("x", arg("q", 2)))...)); len(c.Ops) != n {
			t.Errorf("%d times: %v", n, c)
		}
	}
	// Name and Args aren't looked at.
	row := api.Row{Kind: "repeat", Num: 2, Name: "nothing", Args: []api.Arg{arg("nothing", -7)}}
	if c := flattenable(t, declared(with(row, use("x", arg("q", 2)))...)); len(c.Ops) != 2 {
		t.Errorf("%v", c)
	}
}

// P12.1: ifs of no bit register, and of the greatest number that a register holds and of one more.
func TestIfsNumbers(t *testing.T) {
	for _, name := range []string{"q", "p", "f", "g", "x", "h", "a", "b", "nothing", "", "C"} {
		faulty(t, declared(only(name, 0)...), ahead, api.ErrName)
		faulty(t, declared(only(name, -1)...), ahead, api.ErrName)
	}
	// A register is one from its row on alone.
	faulty(t, declared(append(only("e", 0), api.Row{Kind: "bits", Name: "e", Num: 1})...), ahead, api.ErrName)
	for size := 1; size <= 64; size++ {
		for _, first := range []int{0, 64 - size} {
			var begin []api.Row
			if first > 0 {
				begin = append(begin, api.Row{Kind: "bits", Name: "b", Num: first})
			}
			begin = append(begin, api.Row{Kind: "bits", Name: "c", Num: size}, api.Row{Kind: "qubits", Name: "q", Num: 1})
			great := math.MaxInt
			if size < 63 {
				great = 1<<size - 1
				faulty(t, append(begin, only("c", great+1)...), len(begin), api.ErrIndex)
				faulty(t, append(begin, only("c", math.MaxInt)...), len(begin), api.ErrIndex)
			}
			faulty(t, append(begin, only("c", -1)...), len(begin), api.ErrIndex)
			faulty(t, append(begin, only("c", math.MinInt)...), len(begin), api.ErrIndex)
			all := uint64(math.MaxUint64) >> (64 - size) << first
			for _, n := range []int{0, 1, great, great / 2, great - 1} {
				flattens(t, append(begin, only("c", n, use("x", arg("q", 0)))...), of(1, first+size, when(gate("x", 0), all, uint64(n)<<first)))
			}
		}
	}
	refusedAt(t, "bits c 1; @if c 2 { }", api.ErrIndex)
	refusedAt(t, "bits c 2; @if c 4 { }", api.ErrIndex)
	comes(t, "bits c 63; bits d 1; qubits q 1; if c 9007199254740991 { if d 1 { x q[0]; } }", of(1, 64, when(gate("x", 0), math.MaxUint64, 1<<63|1<<53-1)))
	// Args aren't looked at.
	row := api.Row{Kind: "if", Name: "d", Num: 1, Args: []api.Arg{arg("nothing", -7)}}
	if c := flattenable(t, declared(with(row, use("x", arg("q", 2)))...)); !same(c, of(4, 3, when(gate("x", 2), 4, 4))) {
		t.Errorf("%v", c)
	}
}

// P12.1: uses outside of definitions.
func TestUses(t *testing.T) {
	for _, name := range []string{"q", "p", "c", "d", "a", "b", "nothing", "", "X", "use"} {
		faulty(t, declared(use(name)), ahead, api.ErrGate)
		faulty(t, declared(use(name, arg("q", 0))), ahead, api.ErrGate)
		faulty(t, declared(use(name, arg("nothing", 9))), ahead, api.ErrGate)
	}
	for _, c := range []struct {
		row api.Row
		e   api.Errno
	}{
		{use("h"), api.ErrArity}, {use("h", arg("q", 0), arg("q", 1)), api.ErrArity}, {use("cx", arg("q", 0)), api.ErrArity}, {use("cx", arg("q", 0), arg("q", 0), arg("q", 0)), api.ErrArity}, {use("ccx", arg("q", 0), arg("q", 1)), api.ErrArity},
		{use("f"), api.ErrArity}, {use("f", arg("q", 0), arg("q", 0)), api.ErrArity}, {use("g", arg("x", 0)), api.ErrArity}, {use("g", arg("q", 9), arg("x", 0), arg("q", 0)), api.ErrArity},
		{use("h", arg("c", 0)), api.ErrName}, {use("h", arg("f", 0)), api.ErrName}, {use("h", arg("x", 0)), api.ErrName}, {use("h", arg("a", 0)), api.ErrName}, {use("h", par("a")), api.ErrName}, {use("h", arg("nothing", -1)), api.ErrName}, {use("h", arg("", 9)), api.ErrName},
		{use("h", arg("q", -1)), api.ErrIndex}, {use("h", arg("q", 3)), api.ErrIndex}, {use("h", arg("p", 1)), api.ErrIndex}, {use("h", arg("q", math.MaxInt)), api.ErrIndex}, {use("h", arg("q", math.MinInt)), api.ErrIndex}, {use("f", arg("q", -2)), api.ErrIndex},
		{use("cx", arg("q", 0), arg("c", 0)), api.ErrName}, {use("cx", arg("q", 0), arg("q", 3)), api.ErrIndex}, {use("cx", arg("q", 3), arg("c", 0)), api.ErrIndex}, {use("cx", arg("c", 0), arg("q", 3)), api.ErrName}, {use("g", arg("q", -1), arg("c", 0)), api.ErrIndex},
		{use("cx", arg("q", 3), arg("q", 3)), api.ErrIndex}, {use("cx", arg("c", 0), arg("c", 0)), api.ErrName}, {use("ccx", arg("q", 1), arg("q", 1), arg("q", 3)), api.ErrIndex}, {use("ccx", arg("q", 1), arg("q", 1), arg("d", 0)), api.ErrName},
		{use("cx", arg("q", 1), arg("q", 1)), api.ErrSame}, {use("g", arg("q", 1), arg("q", 1)), api.ErrSame}, {use("g", arg("p", 0), arg("p", 0)), api.ErrSame},
		{use("ccx", arg("q", 1), arg("q", 1), arg("q", 0)), api.ErrSame}, {use("ccx", arg("q", 1), arg("q", 0), arg("q", 1)), api.ErrSame}, {use("ccx", arg("q", 0), arg("q", 2), arg("q", 2)), api.ErrSame}, {use("ccx", arg("q", 2), arg("q", 2), arg("q", 2)), api.ErrSame},
	} {
		faulty(t, declared(c.row), ahead, c.e)
		faulty(t, declared(again(2, use("x", arg("q", 0)), c.row)...), ahead+2, c.e)
		faulty(t, declared(only("c", 1, c.row)...), ahead+1, c.e)
	}
	// One index of two registers is no qubit twice; and Num isn't looked at.
	row := use("cx", arg("q", 0), arg("p", 0))
	row.Num = -4
	if c := flattenable(t, declared(row)); !same(c, of(4, 3, gate("cx", 0, 3))) {
		t.Errorf("%v", c)
	}
	refusedAt(t, "qubits q 2; @foo q[0];", api.ErrGate)
	refusedAt(t, "@x p[0];", api.ErrName)
	refusedAt(t, "qubits q 2; @cx q[0];", api.ErrArity)
}

// P12.1: uses in definitions.
func TestUsesInDefinitions(t *testing.T) {
	for _, c := range []struct {
		row api.Row
		e   api.Errno
	}{
		{use("k", par("a"), par("b")), api.ErrLoop}, {use("k"), api.ErrLoop}, {use("k", arg("nothing", 7)), api.ErrLoop},
		{use("later", par("a")), api.ErrGate}, {use("a", par("a")), api.ErrGate}, {use("q", par("a")), api.ErrGate}, {use("nothing"), api.ErrGate}, {use("", par("z")), api.ErrGate},
		{use("h"), api.ErrArity}, {use("h", par("a"), par("b")), api.ErrArity}, {use("f", par("a"), par("a")), api.ErrArity}, {use("g", arg("q", 0)), api.ErrArity},
		{use("h", arg("a", 0)), api.ErrIndex}, {use("h", arg("a", -2)), api.ErrIndex}, {use("h", arg("q", 0)), api.ErrIndex}, {use("h", arg("nothing", math.MaxInt)), api.ErrIndex}, {use("f", arg("b", math.MinInt)), api.ErrIndex},
		{use("h", par("q")), api.ErrName}, {use("h", par("nothing")), api.ErrName}, {use("h", par("k")), api.ErrName}, {use("h", par("c")), api.ErrName}, {use("h", par("")), api.ErrName}, {use("f", par("x")), api.ErrName},
		{use("cx", par("a"), arg("b", 0)), api.ErrIndex}, {use("cx", par("a"), par("q")), api.ErrName}, {use("cx", par("q"), arg("b", 0)), api.ErrName}, {use("cx", arg("b", 0), par("q")), api.ErrIndex},
		{use("cx", par("q"), par("q")), api.ErrName}, {use("cx", arg("a", 1), arg("a", 1)), api.ErrIndex}, {use("ccx", par("a"), par("a"), par("q")), api.ErrName}, {use("ccx", par("a"), par("a"), arg("b", 3)), api.ErrIndex},
		{use("cx", par("a"), par("a")), api.ErrSame}, {use("g", par("b"), par("b")), api.ErrSame}, {use("ccx", par("a"), par("b"), par("a")), api.ErrSame}, {use("ccx", par("b"), par("b"), par("b")), api.ErrSame},
	} {
		faulty(t, declared(append(definition("k", "a b", c.row), definition("later", "a")...)...), ahead+1, c.e)
		faulty(t, declared(definition("k", "a b", append(again(3, use("h", par("b")), c.row), use("x", par("a")))...)...), ahead+3, c.e)
		faulty(t, declared(definition("k", "a b", append(again(0), c.row)...)...), ahead+2, c.e)
	}
	refusedAt(t, "gate g a { @g a; }", api.ErrLoop)
	refusedAt(t, "gate g a { repeat 0 { @g a; } }", api.ErrLoop)
	refusedAt(t, "gate g a { @k a; } gate k a { g a; }", api.ErrGate)
	refusedAt(t, "qubits q 1; @g q[0]; gate g a { x a; }", api.ErrGate)
	refusedAt(t, "gate g a { @x b; }", api.ErrName)
	refusedAt(t, "gate g a { @x a[0]; }", api.ErrIndex)
	// Another definition's parameters are none of this one's; nor are they behind it.
	refusedAt(t, "gate g a { x a; } gate k b { @x a; }", api.ErrName)
	refusedAt(t, "gate g a { x a; } @x a;", api.ErrName)
}

// P12.1: measurements and resets.
func TestMeasurementsAndResets(t *testing.T) {
	good := []api.Arg{arg("q", 2), arg("c", 1)}
	for _, c := range []struct {
		args []api.Arg
		e    api.Errno
	}{
		{nil, api.ErrArity}, {good[:1], api.ErrArity}, {[]api.Arg{arg("q", 0), arg("c", 0), arg("c", 1)}, api.ErrArity}, {[]api.Arg{arg("x", 0)}, api.ErrArity}, {times(5, arg("x", -9)), api.ErrArity},
		{[]api.Arg{arg("c", 0), arg("c", 0)}, api.ErrName}, {[]api.Arg{arg("nothing", 9), arg("c", 0)}, api.ErrName}, {[]api.Arg{arg("f", 0), arg("c", 0)}, api.ErrName}, {[]api.Arg{arg("c", 0), arg("q", 0)}, api.ErrName}, {[]api.Arg{par("a"), arg("c", 0)}, api.ErrName},
		{[]api.Arg{arg("q", 3), arg("c", 0)}, api.ErrIndex}, {[]api.Arg{arg("q", -1), arg("c", 0)}, api.ErrIndex}, {[]api.Arg{arg("p", 1), arg("nothing", 0)}, api.ErrIndex}, {[]api.Arg{arg("q", math.MaxInt), arg("q", 0)}, api.ErrIndex},
		{[]api.Arg{arg("q", 0), arg("q", 0)}, api.ErrName}, {[]api.Arg{arg("q", 0), arg("nothing", 9)}, api.ErrName}, {[]api.Arg{arg("q", 0), par("h")}, api.ErrName}, {[]api.Arg{arg("q", 0), arg("g", -1)}, api.ErrName},
		{[]api.Arg{arg("q", 0), arg("c", 2)}, api.ErrIndex}, {[]api.Arg{arg("q", 0), arg("c", -1)}, api.ErrIndex}, {[]api.Arg{arg("p", 0), arg("d", 1)}, api.ErrIndex}, {[]api.Arg{arg("q", 0), arg("d", math.MinInt)}, api.ErrIndex}, {[]api.Arg{arg("nothing", 0), arg("d", 5)}, api.ErrName},
	} {
		faulty(t, declared(api.Row{Kind: "measure", Args: c.args}), ahead, c.e)
		faulty(t, declared(only("d", 1, again(2, api.Row{Kind: "measure", Args: c.args})...)...), ahead+2, c.e)
	}
	for _, c := range []struct {
		args []api.Arg
		e    api.Errno
	}{
		{nil, api.ErrArity}, {good, api.ErrArity}, {[]api.Arg{arg("q", 0), arg("q", 1)}, api.ErrArity}, {[]api.Arg{arg("nothing", 0), arg("q", 9)}, api.ErrArity},
		{[]api.Arg{arg("c", 0)}, api.ErrName}, {[]api.Arg{arg("nothing", 9)}, api.ErrName}, {[]api.Arg{arg("h", 0)}, api.ErrName}, {[]api.Arg{par("g")}, api.ErrName},
		{[]api.Arg{arg("q", 3)}, api.ErrIndex}, {[]api.Arg{par("q")}, api.ErrIndex}, {[]api.Arg{arg("p", 1)}, api.ErrIndex}, {[]api.Arg{arg("p", math.MaxInt)}, api.ErrIndex}, {[]api.Arg{arg("p", math.MinInt)}, api.ErrIndex},
	} {
		faulty(t, declared(api.Row{Kind: "reset", Args: c.args}), ahead, c.e)
		faulty(t, declared(again(1, only("c", 0, api.Row{Kind: "reset", Args: c.args})...)...), ahead+2, c.e)
	}
	// Name and Num aren't looked at.
	rows := declared(api.Row{Kind: "measure", Name: "nothing", Num: -3, Args: good}, api.Row{Kind: "reset", Name: "h", Num: 99, Args: good[:1]})
	if c := flattenable(t, rows); !same(c, of(4, 3, measure(2, 1), reset(2))) {
		t.Errorf("%v", c)
	}
}

// P12.1: two errors of a register's or a definition's row: the first of the list is told.
func TestOrderOfErrors(t *testing.T) {
	for _, kind := range []string{"qubits", "bits"} {
		faulty(t, declared(api.Row{Kind: kind, Name: "q", Num: 0}), ahead, api.ErrName)
		faulty(t, declared(api.Row{Kind: kind, Name: "h", Num: 65}), ahead, api.ErrName)
		faulty(t, declared(api.Row{Kind: kind, Name: "h", Num: 65, Rows: 1}, use("x")), ahead, api.ErrSyntax)
		faulty(t, declared(again(1, api.Row{Kind: kind, Name: "h", Num: 65})...), ahead+1, api.ErrSyntax)
		// Args aren't looked at.
		flattenable(t, declared(api.Row{Kind: kind, Name: "new", Num: 1, Args: []api.Arg{arg("nothing", -7)}}))
	}
	faulty(t, declared(api.Row{Kind: "gate", Name: "q"}), ahead, api.ErrName)
	faulty(t, declared(api.Row{Kind: "gate", Name: "q", Args: []api.Arg{arg("a", 0), arg("a", 0)}}), ahead, api.ErrName)
	faulty(t, declared(api.Row{Kind: "gate", Name: "q", Rows: 1}), ahead, api.ErrSyntax)
	faulty(t, declared(again(-1, api.Row{Kind: "gate"})...), ahead, api.ErrIndex)
	faulty(t, declared(only("q", -1, api.Row{Kind: "gate"})...), ahead, api.ErrName)
}

// P12.1: the first row at fault is told, each row ahead of its body, and what comes of the rows behind all of them.
func TestFirstRowAtFault(t *testing.T) {
	x, bad, worse := use("x", arg("q", 0)), use("x", arg("q", 3)), api.Row{Kind: "foo"}
	faulty(t, declared(x, bad, worse), ahead+1, api.ErrIndex)
	faulty(t, declared(x, worse, bad), ahead+1, api.ErrSyntax)
	faulty(t, declared(append(again(2, x, bad, x), worse)...), ahead+2, api.ErrIndex)
	faulty(t, declared(append(again(-2, bad), worse)...), ahead, api.ErrIndex)
	faulty(t, declared(append(only("q", 0, bad), worse)...), ahead, api.ErrName)
	faulty(t, declared(append(definition("k", "a a", bad), worse)...), ahead, api.ErrSame)
	faulty(t, declared(append(definition("k", "a", bad), worse)...), ahead+1, api.ErrIndex)
	faulty(t, declared(append(definition("k", "a"), bad, worse)...), ahead+1, api.ErrIndex)
	faulty(t, declared(append(again(5000, x), bad)...), ahead+2, api.ErrIndex)
	faulty(t, declared(append(again(37, use("h", arg("q", 0))), bad)...), ahead+2, api.ErrIndex)
	for _, place := range []int{0, 1, -1, math.MaxInt, math.MinInt, 65536} {
		refusedRows(t, []api.Row{{Kind: "repeat", Place: 5}, {Kind: "foo", Place: place}, {Kind: "foo", Place: 6}}, api.ErrSyntax, place)
	}
}

// P12.1: definitions of the depth MaxDepth, and of one more; the use that makes one deeper is at fault.
func TestDepthOfDefinitions(t *testing.T) {
	chain := func(n int, body string) string {
		text := "gate g1 a { " + body + "} "
		for j := 2; j <= n; j++ {
			text += "gate g" + strconv.Itoa(j) + " a { g" + strconv.Itoa(j-1) + " a; } "
		}
		return text
	}
	for _, body := range []string{"", "x a; ", "repeat 0 { } ", "repeat 2 { y a; } "} {
		text := chain(32, body)
		c, _, e := flat.Read(text + "qubits q 1; g32 q[0];")
		if e != api.OK || len(c.Ops) != map[string]int{"": 0, "x a; ": 1, "repeat 0 { } ": 0, "repeat 2 { y a; } ": 2}[body] {
			t.Errorf("%q: %v, %d", body, c, e)
		}
		refusedAt(t, text+"gate k a { @g32 a; }", api.ErrDeep)
		refusedAt(t, text+"gate k a { x a; g1 a; g31 a; repeat 0 { @g32 a; } g32 a; }", api.ErrDeep)
		refusedAt(t, text+"gate k a b { @g32 b; g32 a; }", api.ErrDeep)
		// The deepest that is used counts, wherever it stands; a use outside of definitions is in none.
		refusedAt(t, text+"gate k a { repeat 0 { g31 a; } x a; } gate l a { g1 a; @k a; g1 a; }", api.ErrDeep)
		refusedAt(t, text+"gate k a { g31 a; g1 a; } gate l a { @k a; }", api.ErrDeep)
		comes(t, text+"gate k a { g30 a; g1 a; x a; } gate l a { k a; } gate m a { x a; } gate n a { m a; }", api.Circuit{})
		// Of several errors it is the last.
		refusedAt(t, text+"gate k a b { @g32 a b; }", api.ErrArity)
		refusedAt(t, text+"gate k a b { @g32 q; }", api.ErrName)
		refusedAt(t, text+"gate k a b { @g32 a[0]; }", api.ErrIndex)
	}
	two := strings.ReplaceAll(strings.ReplaceAll(chain(32, "cx a b; "), " a;", " a b;"), " a {", " a b {")
	refusedAt(t, two+"gate k a b { @g32 a a; }", api.ErrSame)
	refusedAt(t, two+"gate k a b { @g32 b a; }", api.ErrDeep)
}
