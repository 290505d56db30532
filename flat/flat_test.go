package flat_test

import (
	"reflect"
	"slices"
	"strconv"
	"strings"
	"testing"

	"cubit/api"
	"cubit/circuit"
	"cubit/flat"
	"cubit/parse"
)

// The functions are as the chapter has them.
var (
	_ func([]api.Row) (api.Circuit, int, api.Errno) = flat.Flat
	_ func(string) (api.Circuit, int, api.Errno)    = flat.Read
	_ func(api.Circuit) (string, api.Errno)         = flat.Show
)

// A fact is what chapter 8 tells of a gate.
type fact struct {
	name          string
	qubits, halve int
}

// facts are chapter 8's gates, in its order.
var facts = []fact{
	{"i", 1, 0}, {"x", 1, 0}, {"y", 1, 0}, {"z", 1, 0}, {"h", 1, 1}, {"s", 1, 0}, {"sdg", 1, 0}, {"t", 1, 0}, {"tdg", 1, 0}, {"v", 1, 1}, {"vdg", 1, 1}, {"w", 1, 0}, {"wdg", 1, 0},
	{"cx", 2, 0}, {"cy", 2, 0}, {"cz", 2, 0}, {"ch", 2, 1}, {"cs", 2, 0}, {"csdg", 2, 0}, {"swap", 2, 0}, {"iswap", 2, 0}, {"iswapdg", 2, 0},
	{"ccx", 3, 0}, {"ccz", 3, 0}, {"cswap", 3, 0},
}

// factOf is a gate's fact; that of no gate is all nought.
func factOf(name string) fact {
	for _, f := range facts {
		if f.name == name {
			return f
		}
	}
	return fact{}
}

func gate(name string, qubits ...int) api.Op {
	return api.Op{Kind: api.OpGate, Name: name, Qubits: qubits}
}

func measure(qubit, bit int) api.Op {
	return api.Op{Kind: api.OpMeasure, Qubits: []int{qubit}, Bit: bit}
}

func reset(qubit int) api.Op { return api.Op{Kind: api.OpReset, Qubits: []int{qubit}} }

// when is the operation under a condition.
func when(op api.Op, mask, value uint64) api.Op {
	op.If, op.Mask, op.Value = true, mask, value
	return op
}

func of(qubits, bits int, ops ...api.Op) api.Circuit {
	return api.Circuit{Qubits: qubits, Bits: bits, Ops: ops}
}

// times is so many of one.
func times[V any](n int, one ...V) []V { return slices.Repeat(one, n) }

// same: are these the same circuits? (No list and an empty one are the same.)
func same(a, b api.Circuit) bool {
	return a.Qubits == b.Qubits && a.Bits == b.Bits && slices.EqualFunc(a.Ops, b.Ops, sameOp)
}

func sameOp(x, y api.Op) bool {
	return x.Kind == y.Kind && x.Name == y.Name && slices.Equal(x.Qubits, y.Qubits) && x.Bit == y.Bit && x.If == y.If && x.Mask == y.Mask && x.Value == y.Value
}

// few is a circuit's first operations, for a message.
func few(c api.Circuit) api.Circuit {
	c.Ops = c.Ops[:min(len(c.Ops), 8)]
	return c
}

// someRows is the first rows, for a message.
func someRows(rows []api.Row) []api.Row { return rows[:min(len(rows), 20)] }

// parsed is the rows of a text that is right.
func parsed(t *testing.T, text string) []api.Row {
	t.Helper()
	rows, place, e := parse.Parse(text)
	if e != api.OK {
		t.Fatalf("Parse(%.80q): %d, %d", text, place, e)
	}
	return rows
}

// comes asks that a circuit comes of the text, by Read and by Flat.
func comes(t *testing.T, text string, want api.Circuit) {
	t.Helper()
	if c, place, e := flat.Read(text); !same(c, want) || place != 0 || e != api.OK {
		t.Errorf("Read(%.200q): %v, %d, %d, not %v", text, few(c), place, e, few(want))
	}
	flattens(t, parsed(t, text), want)
}

// flattens asks that a circuit comes of the rows.
func flattens(t *testing.T, rows []api.Row, want api.Circuit) {
	t.Helper()
	c, place, e := flat.Flat(rows)
	if !same(c, want) || place != 0 || e != api.OK {
		t.Errorf("Flat(%v): %v, %d, %d, not %v", someRows(rows), few(c), place, e, few(want))
	}
	if at, e := circuit.Check(c); e != api.OK {
		t.Errorf("Check of what comes of %v: %d, %d", someRows(rows), at, e)
	}
}

// refused asks for an error and its place, and nothing beside them, by Read and by Flat.
func refused(t *testing.T, text string, want api.Errno, at int) {
	t.Helper()
	if c, place, e := flat.Read(text); !reflect.DeepEqual(c, api.Circuit{}) || place != at || e != want {
		t.Errorf("Read(%.200q): %v, %d, %d, not %d, %d", text, few(c), place, e, at, want)
	}
	refusedRows(t, parsed(t, text), want, at)
}

// refusedRows asks for an error and its place, and nothing beside them.
func refusedRows(t *testing.T, rows []api.Row, want api.Errno, at int) {
	t.Helper()
	if c, place, e := flat.Flat(rows); !reflect.DeepEqual(c, api.Circuit{}) || place != at || e != want {
		t.Errorf("Flat(%v): %v, %d, %d, not %d, %d", someRows(rows), few(c), place, e, at, want)
	}
}

// refusedAt is refused, with the place told by a mark ahead of the row: @.
func refusedAt(t *testing.T, text string, want api.Errno) {
	t.Helper()
	at := strings.Index(text, "@")
	if at < 0 || strings.Count(text, "@") != 1 {
		t.Fatalf("no one place in %q", text)
	}
	refused(t, text[:at]+text[at+1:], want, at)
}

func TestNumbersOfTheChapter(t *testing.T) {
	if api.MaxRows != 64 || api.MaxBits != 64 || api.MaxOps != 4096 || api.MaxSource != 65536 || api.MaxDepth != 32 || api.MaxHalf != 36 {
		t.Error("a limit is another")
	}
	if api.ErrLong != 1 || api.ErrGate != 80 || api.ErrSyntax != 100 || api.ErrDeep != 102 || api.ErrName != 110 || api.ErrArity != 111 || api.ErrIndex != 112 || api.ErrSame != 113 || api.ErrLoop != 114 || api.ErrMany != 115 || api.ErrRoots != 116 {
		t.Error("an error's number is another")
	}
}

// P12.1: the chapter's examples.
func TestExamples(t *testing.T) {
	comes(t, "qubits q 2; h q[0]; cx q[0] q[1];", of(2, 0, gate("h", 0), gate("cx", 0, 1)))
	comes(t, "qubits q 1; bits c 2; bits d 1; measure q[0] d[0]; if d 1 { x q[0]; }", of(1, 3, measure(0, 2), when(gate("x", 0), 4, 4)))
	comes(t, "qubits a 1; qubits b 1; gate g x y { cx y x; repeat 2 { t x; } } g b[0] a[0];", of(2, 0, gate("cx", 0, 1), gate("t", 1), gate("t", 1)))
	comes(t, "bits c 1; qubits q 1; if c 0 { if c 1 { x q[0]; } }", of(1, 1))
	refused(t, "gate g x { g x; }", api.ErrLoop, 11)
	refused(t, "qubits h 1;", api.ErrName, 0)
	refused(t, "qubits q 1; h q;", api.ErrIndex, 12)
	refused(t, "qubits q 1; repeat 5000 { x q[0]; }", api.ErrMany, 26)
	comes(t, "qubits q 1; repeat 9007199254740991 { }", of(1, 0))
	refused(t, "qubits q 1; repeat 37 { h q[0]; }", api.ErrRoots, 24)
	refused(t, "qubits q 2; cx q[0] q[0];", api.ErrSame, 12)
}

// P12.1: registers one behind the other, each sort by itself, wherever they are declared.
func TestRegisters(t *testing.T) {
	comes(t, "qubits a 3; bits c 2; qubits b 2; bits d 3; x a[0]; y a[2]; z b[0]; s b[1]; measure a[1] c[1]; measure b[1] d[0]; reset b[0]; measure a[0] d[2];",
		of(5, 5, gate("x", 0), gate("y", 2), gate("z", 3), gate("s", 4), measure(1, 1), measure(4, 2), reset(3), measure(0, 4)))
	comes(t, "qubits a 1; x a[0]; qubits b 1; x b[0]; qubits c 1; ccx c[0] a[0] b[0]; swap c[0] b[0];",
		of(3, 0, gate("x", 0), gate("x", 1), gate("ccx", 2, 0, 1), gate("swap", 2, 1)))
	comes(t, "qubits q 7;", of(7, 0))
	comes(t, "bits q 7;", of(0, 7))
	comes(t, "", of(0, 0))
}

// P12.1: each gate of layer 8 on qubits of two registers.
func TestGatesOfLayer8(t *testing.T) {
	for _, f := range facts {
		args, qubits := []string{" q[1]", " p[0]", " q[0]"}[:f.qubits], []int{2, 0, 1}[:f.qubits]
		comes(t, "qubits p 1; qubits q 2; "+f.name+strings.Join(args, "")+";", of(3, 0, gate(f.name, qubits...)))
		comes(t, "gate g a b c { "+f.name+[]string{"", " b", " b c", " b c a"}[f.qubits]+"; } qubits p 1; qubits q 2; g q[0] q[1] p[0];", of(3, 0, gate(f.name, []int{2, 0, 1}[:f.qubits]...)))
		refusedAt(t, "qubits p 1; qubits q 3; @"+f.name+strings.Join(args, "")+" q[2];", api.ErrArity)
		refusedAt(t, "qubits p 1; qubits q 2; @"+f.name+strings.Join(args[1:], "")+";", api.ErrArity)
	}
}

// P12.1: definitions, with the Args put for the parameters, through several of them.
func TestDefinitions(t *testing.T) {
	comes(t, "qubits q 4; gate f a { h a; } gate g a b { f b; cx b a; f a; } gate k b a c { g c b; ccx a b c; g a c; } k q[3] q[1] q[2]; f q[0];", of(4, 0,
		gate("h", 3), gate("cx", 3, 2), gate("h", 2), gate("ccx", 1, 3, 2), gate("h", 2), gate("cx", 2, 1), gate("h", 1), gate("h", 0)))
	comes(t, "gate g a { x a; } qubits q 1; gate k b { g b; g b; } k q[0]; g q[0];", of(1, 0, times(3, gate("x", 0))...))
	comes(t, "gate g a b { } qubits q 2; g q[0] q[1]; x q[1];", of(2, 0, gate("x", 1)))
	// A parameter may have any name: a register's, a gate's, that of its own gate.
	comes(t, "qubits q 2; gate g q x g h { x x; h g; x q; x h; } gate k g { y g; } qubits r 3; g r[2] q[0] r[0] r[1]; k q[1];", of(5, 0, gate("x", 0), gate("h", 2), gate("x", 4), gate("x", 3), gate("y", 1)))
	comes(t, "qubits q 2; gate g b a { cx a b; } gate k a b { g a b; g b a; } k q[0] q[1];", of(2, 0, gate("cx", 1, 0), gate("cx", 0, 1)))
	comes(t, "gate use a { x a; } qubits _ 1; use _[0];", of(1, 0, gate("x", 0)))
}

// P12.1: a definition with as many parameters as there can be qubits.
func TestManyParameters(t *testing.T) {
	want := of(64, 0)
	params, body, args := "", "", ""
	for j := range 64 {
		n := strconv.Itoa(j)
		params += " p" + n
		body += "x p" + n + "; "
		args = " q[" + n + "]" + args
		want.Ops = append(want.Ops, gate("x", 63-j))
	}
	comes(t, "qubits q 64; gate g"+params+" { "+body+"} g"+args+";", want)
}

// P12.1: repeats, within one another, in definitions and around them.
func TestRepeats(t *testing.T) {
	x, y, z := gate("x", 0), gate("y", 0), gate("z", 0)
	for n, text := range []string{"0", "1", "2", "3"} {
		comes(t, "qubits q 1; z q[0]; repeat "+text+" { x q[0]; y q[0]; } z q[0];", of(1, 0, slices.Concat([]api.Op{z}, times(n, x, y), []api.Op{z})...))
		comes(t, "qubits q 1; repeat 3 { x q[0]; repeat "+text+" { y q[0]; } z q[0]; }", of(1, 0, times(3, slices.Concat([]api.Op{x}, times(n, y), []api.Op{z})...)...))
		comes(t, "gate g a { repeat "+text+" { x a; repeat 2 { y a; } } z a; } qubits q 1; repeat 2 { g q[0]; x q[0]; }", of(1, 0, times(2, slices.Concat(times(n, x, y, y), []api.Op{z, x})...)...))
	}
	comes(t, "qubits q 2; bits c 2; repeat 2 { measure q[1] c[0]; reset q[0]; }", of(2, 2, measure(1, 0), reset(0), measure(1, 0), reset(0)))
}

// P12.1: ifs, around one another, around repeats, measurements, resets and uses of what is defined.
func TestConditions(t *testing.T) {
	x := gate("x", 0)
	const begin = "qubits q 1; bits c 2; bits d 3; bits e 1; "
	comes(t, begin+"if c 0 { x q[0]; } if c 3 { x q[0]; } if d 5 { x q[0]; } if e 1 { x q[0]; } x q[0];", of(1, 6, when(x, 3, 0), when(x, 3, 3), when(x, 28, 20), when(x, 32, 32), x))
	comes(t, begin+"if d 4 { if c 1 { x q[0]; } x q[0]; if e 0 { reset q[0]; } measure q[0] c[1]; }", of(1, 6, when(x, 31, 17), when(x, 28, 16), when(reset(0), 60, 16), when(measure(0, 1), 28, 16)))
	comes(t, begin+"if e 1 { if c 2 { if d 7 { x q[0]; } } } x q[0];", of(1, 6, when(x, 63, 62), x))
	comes(t, begin+"if c 2 { repeat 2 { x q[0]; if d 1 { x q[0]; } } }", of(1, 6, when(x, 3, 2), when(x, 31, 6), when(x, 3, 2), when(x, 31, 6)))
	comes(t, begin+"repeat 2 { if c 2 { x q[0]; } x q[0]; }", of(1, 6, when(x, 3, 2), x, when(x, 3, 2), x))
	comes(t, begin+"gate g a { repeat 2 { x a; } } gate k a { g a; } if e 1 { k q[0]; } k q[0];", of(1, 6, when(x, 32, 32), when(x, 32, 32), x, x))
	comes(t, begin+"if c 1 { } if d 1 { repeat 3 { } }", of(1, 6))
}

// P12.1: of ifs of one register within one another the same value changes nothing, and another one leaves no operations; what is around and behind stays.
func TestConditionsOfOneRegister(t *testing.T) {
	x := gate("x", 0)
	const begin = "qubits q 1; bits c 2; bits d 2; gate g a { x a; } "
	comes(t, begin+"if c 1 { if c 1 { x q[0]; } }", of(1, 4, when(x, 3, 1)))
	comes(t, begin+"if c 1 { if c 1 { if c 1 { x q[0]; } x q[0]; } x q[0]; }", of(1, 4, times(3, when(x, 3, 1))...))
	comes(t, begin+"if c 0 { if c 0 { x q[0]; } }", of(1, 4, when(x, 3, 0)))
	for _, two := range []string{"0 1", "1 0", "1 2", "2 1", "3 1", "1 3", "2 3", "3 0", "0 3"} {
		comes(t, begin+"if c "+two[:1]+" { if c "+two[2:]+" { x q[0]; g q[0]; reset q[0]; measure q[0] d[0]; } }", of(1, 4))
		comes(t, begin+"if c "+two[:1]+" { if d 1 { if c "+two[2:]+" { x q[0]; } x q[0]; } } x q[0];", of(1, 4, when(x, 15, 4|uint64(two[0]-'0')), x))
		comes(t, begin+"if c "+two[:1]+" { repeat 3 { if c "+two[2:]+" { if c "+two[:1]+" { x q[0]; } } } }", of(1, 4))
		comes(t, begin+"if c "+two[:1]+" { if c "+two[2:]+" { if c "+two[2:]+" { x q[0]; } } } if c "+two[2:]+" { x q[0]; }", of(1, 4, when(x, 3, uint64(two[2]-'0'))))
	}
	comes(t, begin+"if c 1 { if d 2 { if c 1 { if d 2 { x q[0]; } if d 1 { x q[0]; } } } }", of(1, 4, when(x, 15, 9)))
	// What has no operations is looked at all the same.
	refusedAt(t, begin+"if c 1 { if c 2 { @x r[0]; } }", api.ErrName)
	refusedAt(t, begin+"repeat 0 { @x q[1]; }", api.ErrIndex)
	refusedAt(t, begin+"gate k a { @x b; }", api.ErrName)
}

// Rule 3, rule 4: of no rows a circuit of nothing comes.
func TestNoRows(t *testing.T) {
	flattens(t, nil, api.Circuit{})
	flattens(t, []api.Row{}, api.Circuit{})
	comes(t, " # a remark\n", api.Circuit{})
}

// P12.1: Read tells what Parse tells of a text that it refuses.
func TestReadWhatParseRefuses(t *testing.T) {
	for _, text := range []string{
		"qubits q 1", "measure q[0];", "}", "qubits if 2;", "$", "a 3q", "repeat 9007199254740992 { }", strings.Repeat("repeat 1 {", 33), strings.Repeat("repeat 1 {", 32) + "x q[0];" + strings.Repeat("}", 31),
		"qubits h 1; }", "gate g x { g x; } {", "x p[0]; x", strings.Repeat(" ", 65537), strings.Repeat("x p[0];", 10000), "qubits q 2; h q[0]; cx q[0] q[1]; \xff", "qubits q -1;", "\x00",
	} {
		rows, at, want := parse.Parse(text)
		if want == api.OK || rows != nil {
			t.Fatalf("Parse(%.80q) refuses nothing", text)
		}
		c, place, e := flat.Read(text)
		if !reflect.DeepEqual(c, api.Circuit{}) || place != at || e != want {
			t.Errorf("Read(%.80q): %v, %d, %d, not %d, %d", text, few(c), place, e, at, want)
		}
	}
	for text, want := range map[string]struct {
		place int
		e     api.Errno
	}{"qubits q 1": {10, api.ErrEnd}, "qubits q 1; %": {12, api.ErrLex}, "repeat 9007199254740992 { }": {7, api.ErrLong}, "x q[0]; }": {8, api.ErrSyntax}, strings.Repeat("repeat 1 {", 33): {329, api.ErrDeep}, strings.Repeat(";", 65537): {0, api.ErrLong}} {
		if c, place, e := flat.Read(text); !reflect.DeepEqual(c, api.Circuit{}) || place != want.place || e != want.e {
			t.Errorf("Read(%.80q): %v, %d, %d", text, few(c), place, e)
		}
	}
}
