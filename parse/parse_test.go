package parse_test

import (
	"slices"
	"strings"
	"testing"

	"cubit/api"
	"cubit/parse"
)

// The functions are as the chapter has them.
var (
	_ func(string) ([]api.Row, int, api.Errno) = parse.Parse
	_ func([]api.Row) (string, api.Errno)      = parse.Show
)

// most is MaxPart, and above is one more.
const (
	most  = "9007199254740991"
	above = "9007199254740992"
)

// ownWords are the words of their own.
var ownWords = []string{"qubits", "bits", "gate", "repeat", "if", "measure", "reset"}

func arg(name string) api.Arg           { return api.Arg{Name: name, Index: -1} }
func at(name string, index int) api.Arg { return api.Arg{Name: name, Index: index} }
func args(list ...api.Arg) []api.Arg    { return list }
func deep(n int, s string) string {
	return strings.Repeat("repeat 1 {", n) + s + strings.Repeat("}", n)
}
func use(name string, l ...api.Arg) api.Row { return api.Row{Kind: "use", Name: name, Args: l} }

// same: are these the same rows? (No Args and empty Args are.)
func same(a, b []api.Row) bool {
	return slices.EqualFunc(a, b, func(x, y api.Row) bool {
		return x.Kind == y.Kind && x.Name == y.Name && slices.Equal(x.Args, y.Args) && x.Num == y.Num && x.Rows == y.Rows && x.Place == y.Place
	})
}

// bare is rows without their Places.
func bare(rows []api.Row) []api.Row {
	rows = slices.Clone(rows)
	for j := range rows {
		rows[j].Place = 0
	}
	return rows
}

// few is the first rows, for a message.
func few(rows []api.Row) []api.Row { return rows[:min(len(rows), 8)] }

// read is the rows of a text that Parse must take.
func read(t *testing.T, text string) []api.Row {
	t.Helper()
	rows, place, e := parse.Parse(text)
	if place != 0 || e != api.OK {
		t.Fatalf("Parse(%.80q): place %d, error %d", text, place, e)
	}
	return rows
}

// show is the text of rows that Show must take.
func show(t *testing.T, rows []api.Row) string {
	t.Helper()
	text, e := parse.Show(rows)
	if e != api.OK {
		t.Fatalf("Show(%v): error %d", few(rows), e)
	}
	return text
}

func TestNumbersOfTheChapter(t *testing.T) {
	if api.ErrLong != 1 || api.ErrLex != 90 || api.ErrSyntax != 100 || api.ErrEnd != 101 || api.ErrDeep != 102 || api.MaxSource != 65536 || api.MaxDepth != 32 || api.MaxPart != 1<<53-1 {
		t.Error("the numbers are not the chapter's")
	}
}

// A text and its rows.
type sample struct {
	text string
	rows []api.Row
}

// P10.1: Parse, for the chapter's examples.
func TestExamples(t *testing.T) {
	for _, c := range []sample{
		{"qubits q 2; h q[0];", []api.Row{
			{Kind: "qubits", Name: "q", Num: 2},
			{Kind: "use", Name: "h", Args: args(at("q", 0)), Place: 12}}},
		{"gate g a b { cx a b; }", []api.Row{
			{Kind: "gate", Name: "g", Args: args(arg("a"), arg("b")), Rows: 1},
			{Kind: "use", Name: "cx", Args: args(arg("a"), arg("b")), Place: 13}}},
		{"repeat 2 { if c 1 { x q[0]; } }", []api.Row{
			{Kind: "repeat", Num: 2, Rows: 2},
			{Kind: "if", Name: "c", Num: 1, Rows: 1, Place: 11},
			{Kind: "use", Name: "x", Args: args(at("q", 0)), Place: 20}}},
		{"", nil},
	} {
		if rows := read(t, c.text); !same(rows, c.rows) {
			t.Errorf("Parse(%q): %v, not %v", c.text, rows, c.rows)
		}
	}
	if text := show(t, read(t, "repeat 2 { if c 1 { x q[0]; } }")); text != "repeat 2 {\n  if c 1 {\n    x q[0];\n  }\n}\n" {
		t.Errorf("Show of the third one: %q", text)
	}
}

// P10.1: each of the eight kinds, with its edges.
func TestEachKind(t *testing.T) {
	for _, c := range []sample{
		{"qubits q 0;", []api.Row{{Kind: "qubits", Name: "q"}}},
		{"qubits q " + most + ";", []api.Row{{Kind: "qubits", Name: "q", Num: 1<<53 - 1}}},
		{"bits c 64;", []api.Row{{Kind: "bits", Name: "c", Num: 64}}},
		{"bits _ 007;", []api.Row{{Kind: "bits", Name: "_", Num: 7}}},
		{"gate g { }", []api.Row{{Kind: "gate", Name: "g"}}},
		{"gate g{}", []api.Row{{Kind: "gate", Name: "g"}}},
		{"gate g a { }", []api.Row{{Kind: "gate", Name: "g", Args: args(arg("a"))}}},
		{"gate g g g { g; }", []api.Row{{Kind: "gate", Name: "g", Args: args(arg("g"), arg("g")), Rows: 1}, {Kind: "use", Name: "g", Place: 13}}},
		{"repeat 0 { }", []api.Row{{Kind: "repeat"}}},
		{"repeat " + most + " {}", []api.Row{{Kind: "repeat", Num: 1<<53 - 1}}},
		{"if c 0 { }", []api.Row{{Kind: "if", Name: "c"}}},
		{"if c " + most + " { }", []api.Row{{Kind: "if", Name: "c", Num: 1<<53 - 1}}},
		{"measure q c;", []api.Row{{Kind: "measure", Args: args(arg("q"), arg("c"))}}},
		{"measure q[1] c;", []api.Row{{Kind: "measure", Args: args(at("q", 1), arg("c"))}}},
		{"measure q c[1];", []api.Row{{Kind: "measure", Args: args(arg("q"), at("c", 1))}}},
		{"measure q[0] c[" + most + "];", []api.Row{{Kind: "measure", Args: args(at("q", 0), at("c", 1<<53-1))}}},
		{"measure q q;", []api.Row{{Kind: "measure", Args: args(arg("q"), arg("q"))}}},
		{"reset q;", []api.Row{{Kind: "reset", Args: args(arg("q"))}}},
		{"reset q[00];", []api.Row{{Kind: "reset", Args: args(at("q", 0))}}},
		{"h;", []api.Row{{Kind: "use", Name: "h"}}},
		{"h q;", []api.Row{{Kind: "use", Name: "h", Args: args(arg("q"))}}},
		{"h h h[1];", []api.Row{{Kind: "use", Name: "h", Args: args(arg("h"), at("h", 1))}}},
		{"ccx a[0]b c[2]d[3] ;", []api.Row{{Kind: "use", Name: "ccx", Args: args(at("a", 0), arg("b"), at("c", 2), at("d", 3))}}},
	} {
		if rows := read(t, c.text); !same(rows, c.rows) {
			t.Errorf("Parse(%q): %v, not %v", c.text, rows, c.rows)
		}
	}
}

// No tokens: no rows.
func TestNoRows(t *testing.T) {
	for _, text := range []string{"", " ", "\n\t\r ", "#", "# qubits q 2;", "# $\n", strings.Repeat(" ", 65536), "#" + strings.Repeat("}", 65535)} {
		if rows := read(t, text); len(rows) != 0 {
			t.Errorf("Parse(%.20q): %v", text, few(rows))
		}
	}
	if text := show(t, nil); text != "" {
		t.Errorf("Show(nil): %q", text)
	}
	if text := show(t, []api.Row{}); text != "" {
		t.Errorf("Show of an empty list: %q", text)
	}
}

// Names that are like words of their own, but aren't; the kind use has no word.
func TestPlainNames(t *testing.T) {
	for _, name := range []string{"use", "Qubits", "QUBITS", "qubit", "qubits_", "bit", "bits0", "Gate", "gates", "_gate", "repeats", "If", "iff", "i", "measured", "Reset", "program", "end", "h", "_", "name", "nil"} {
		text := "qubits " + name + " 1;bits " + name + " 2;gate " + name + " " + name + "{" + name + " " + name + " " + name + "[3];}if " + name + " 4{}measure " + name + " " + name + ";reset " + name + ";" + name + ";"
		want := []api.Row{
			{Kind: "qubits", Name: name, Num: 1},
			{Kind: "bits", Name: name, Num: 2},
			{Kind: "gate", Name: name, Args: args(arg(name)), Rows: 1},
			use(name, arg(name), at(name, 3)),
			{Kind: "if", Name: name, Num: 4},
			{Kind: "measure", Args: args(arg(name), arg(name))},
			{Kind: "reset", Args: args(arg(name))},
			use(name),
		}
		if rows := bare(read(t, text)); !same(rows, want) {
			t.Errorf("Parse(%q): %v", text, rows)
		}
	}
}

// one statement of each kind.
var oneOfEach = []string{"qubits q 2;", "bits c 3;", "gate g a b { }", "repeat 4 { }", "if c 5 { }", "measure q[6] c;", "reset q[7];", "h q r[8];"}

// heads are the statements with a body, up to their {.
var heads = []string{"gate g a {", "repeat 4 {", "if c 5 {"}

// Any statement may stand in any body: one, and all of them.
func TestAnyStatementInAnyBody(t *testing.T) {
	for _, head := range heads {
		outer := read(t, head+"}")
		for _, inner := range append(slices.Clone(oneOfEach), strings.Join(oneOfEach, " ")) {
			within := read(t, inner)
			for _, twice := range []bool{false, true} {
				text := head + " " + inner + " }"
				place := len(head) + 1
				want := append(slices.Clone(outer), within...)
				want[0].Rows = len(within)
				if twice {
					text = head + " " + text + " }"
					place += len(head) + 1
					want = append(slices.Clone(outer), want...)
					want[0].Rows = len(within) + 1
					want[1].Place = len(head) + 1
				}
				for j := len(want) - len(within); j < len(want); j++ {
					want[j].Place += place
				}
				if rows := read(t, text); !same(rows, want) {
					t.Errorf("Parse(%q): %v, not %v", text, rows, want)
				}
			}
		}
	}
}

// Rows counts those in bodies within a body too, and those behind it no more.
func TestRowsOfBodies(t *testing.T) {
	text := "repeat 1 { a; if c 1 { b; gate g { } } d; repeat 2 { } } e; gate f { repeat 3 { repeat 4 { } } x; } y;"
	var kinds []string
	var counts []int
	for _, row := range read(t, text) {
		kinds, counts = append(kinds, row.Kind+row.Name), append(counts, row.Rows)
	}
	if !slices.Equal(kinds, []string{"repeat", "usea", "ifc", "useb", "gateg", "used", "repeat", "usee", "gatef", "repeat", "repeat", "usex", "usey"}) ||
		!slices.Equal(counts, []int{6, 0, 2, 0, 0, 0, 0, 0, 3, 1, 0, 0, 0}) {
		t.Errorf("%v %v", kinds, counts)
	}
}

// Numbers of MaxPart with very many noughts ahead, wherever a number fits.
func TestNoughtsAhead(t *testing.T) {
	for _, noughts := range []int{1, 2, 20, 65000} {
		for _, c := range []struct {
			digits string
			want   int
		}{{"", 0}, {"1", 1}, {most, 1<<53 - 1}} {
			number := strings.Repeat("0", noughts) + c.digits
			for _, text := range []string{"qubits q N;", "bits q N;", "repeat N{}", "if q N{}"} {
				if rows := read(t, strings.Replace(text, "N", number, 1)); len(rows) != 1 || rows[0].Num != c.want {
					t.Errorf("%s with %d noughts and %s: %v", text, noughts, c.digits, rows)
				}
			}
			for _, text := range []string{"measure q[N]c;", "reset q[N];", "h q[N];"} {
				if rows := read(t, strings.Replace(text, "N", number, 1)); len(rows) != 1 || rows[0].Args[0].Index != c.want {
					t.Errorf("%s with %d noughts and %s: %v", text, noughts, c.digits, rows)
				}
			}
		}
	}
}

// Bodies nested MaxDepth deep, of each kind, empty or with statements without a body in the last.
func TestDeepest(t *testing.T) {
	for _, inner := range []string{"", "h;", "h; qubits q 1; bits c 1; measure q c; reset q;"} {
		if rows := read(t, deep(32, inner)); len(rows) != 32+strings.Count(inner, ";") {
			t.Errorf("%q: %d rows", inner, len(rows))
		}
		for _, head := range heads {
			rows := read(t, strings.Repeat(head, 32)+inner+strings.Repeat("}", 32)+head+"}")
			all := 33 + strings.Count(inner, ";")
			if len(rows) != all {
				t.Errorf("%s, %q: %d rows", head, inner, len(rows))
			}
			for j, row := range rows[:32] {
				if row.Rows != all-j-2 || row.Place != j*len(head) {
					t.Errorf("%s, %q: row %d is %v", head, inner, j, row)
				}
			}
		}
	}
}

// Depth is what is open, not what has been.
func TestBodiesSideBySide(t *testing.T) {
	text := deep(31, strings.Repeat("repeat 1 { h; } ", 500))
	if rows := read(t, text); len(rows) != 1031 {
		t.Errorf("%d rows", len(rows))
	}
	if rows := read(t, strings.Repeat("if c 1 { }", 6000)); len(rows) != 6000 {
		t.Errorf("%d rows", len(rows))
	}
}

// A text of MaxSource bytes: very many statements, arguments, bytes of one name.
func TestLongestText(t *testing.T) {
	if rows := read(t, strings.Repeat("h;", 32768)); len(rows) != 32768 || rows[32767].Place != 65534 {
		t.Errorf("%d rows", len(rows))
	}
	if rows := read(t, "h"+strings.Repeat(" q", 32767)+";"); len(rows) != 1 || len(rows[0].Args) != 32767 {
		t.Errorf("%d rows", len(rows))
	}
	if rows := read(t, strings.Repeat("q", 65535)+";"); len(rows) != 1 || rows[0].Name != strings.Repeat("q", 65535) {
		t.Errorf("%d rows", len(rows))
	}
}
