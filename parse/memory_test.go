package parse_test

import (
	"slices"
	"strings"
	"testing"
	"unsafe"

	"cubit/api"
	"cubit/parse"
)

const program = "gate g a b { cx a b; h a; } qubits q 3; bits c 2; repeat 2 { g q[0] q[1]; if c 1 { ccx q[0] q[1] q[2]; } } measure q[0] c[1]; reset q[2];"

// cloneAll is rows with Args of their own.
func cloneAll(rows []api.Row) []api.Row {
	rows = slices.Clone(rows)
	for j := range rows {
		rows[j].Args = slices.Clone(rows[j].Args)
	}
	return rows
}

// spoil writes over all that a list of rows holds, with its spare room.
func spoil(rows []api.Row) {
	for _, row := range rows {
		spoilArgs(row.Args)
	}
	rows = rows[:cap(rows)]
	for j := range rows {
		rows[j] = api.Row{Kind: "spoilt", Name: "spoilt", Num: -9, Rows: -9, Place: -9}
	}
}

func spoilArgs(list []api.Arg) {
	list = list[:cap(list)]
	for j := range list {
		list[j] = api.Arg{Name: "spoilt", Index: -9}
	}
}

// What Parse tells is the caller's own, and new at each call.
func TestRowsAreTheCallers(t *testing.T) {
	first, second := read(t, program), read(t, program)
	want := cloneAll(first)
	spoil(first)
	if !same(second, want) || !same(read(t, program), want) {
		t.Error("what two calls tell shares memory")
	}
}

// No two lists of one answer share memory, their spare room included.
func TestListsAreApart(t *testing.T) {
	for j := range read(t, program) {
		rows := read(t, program)
		want := cloneAll(rows)
		spoilArgs(rows[j].Args)
		rows[j].Args, want[j].Args = nil, nil
		if !same(rows, want) {
			t.Errorf("the Args of row %d share memory with others: %v", j, rows)
		}
	}
}

// within: does s stand in the memory of text?
func within(s, text string) bool {
	begin, at := uintptr(unsafe.Pointer(unsafe.StringData(text))), uintptr(unsafe.Pointer(unsafe.StringData(s)))
	return len(s) > 0 && len(text) > 0 && begin <= at && at < begin+uintptr(len(text))
}

// The names are no pieces of the text that was handed in.
func TestNamesAreNoPieces(t *testing.T) {
	text := strings.Clone(program)
	for _, row := range read(t, text) {
		names := []string{row.Kind, row.Name}
		for _, a := range row.Args {
			names = append(names, a.Name)
		}
		for _, name := range names {
			if within(name, text) {
				t.Errorf("%q of %v is a piece of what was handed in", name, row)
			}
		}
	}
}

// The rows handed in stay as they are, with their Args, and so does the room behind both.
func TestRowsHandedInStay(t *testing.T) {
	spare := api.Arg{Name: "spare", Index: 77}
	behind := api.Row{Kind: "use", Name: "behind", Args: args(spare), Place: 99}
	lists := [][]api.Row{read(t, program), {use("h", arg("q"), at("r", 1))}, {use("if", arg("q"))}, {{Kind: "repeat", Rows: 1}}, {{Kind: "repeat", Rows: -1}, use("h", arg("q"))}, nest(32, use("h", arg("q"))), nest(33), slices.Repeat([]api.Row{use("h", arg("q"))}, 30000)}
	for _, rows := range lists {
		room := append(cloneAll(rows), behind, behind)
		given := room[:len(rows)]
		for j := range given {
			count := len(given[j].Args)
			given[j].Args = append(given[j].Args, spare, spare)[:count]
		}
		first, e := parse.Show(given)
		second, again := parse.Show(given)
		if first != second || e != again {
			t.Errorf("Show tells %d, and then %d", e, again)
		}
		if !same(given, rows) || !same(room[len(rows):], []api.Row{behind, behind}) {
			t.Errorf("Show changed what was handed in: %v", few(room))
		}
		for _, row := range given {
			if !slices.Equal(row.Args[len(row.Args):len(row.Args)+2], args(spare, spare)) {
				t.Errorf("Show changed the room behind the Args of %v", row)
			}
		}
	}
}

// What Show answers stays, whatever becomes of the rows.
func TestShownIsNew(t *testing.T) {
	rows := read(t, program)
	text := show(t, rows)
	kept := strings.Clone(text)
	for _, row := range rows {
		if within(text, row.Name) {
			t.Errorf("the text is in the memory of %v", row)
		}
	}
	spoil(rows)
	if text != kept {
		t.Errorf("%q became %q", kept, text)
	}
}

// Rows that share their Args are as good as others.
func TestSharedArgs(t *testing.T) {
	shared := args(arg("a"), arg("b"))
	rows := []api.Row{{Kind: "gate", Name: "g", Args: shared, Rows: 1}, use("cx", shared...), {Kind: "reset", Args: shared[:1]}}
	if text := show(t, rows); text != "gate g a b {\n  cx a b;\n}\nreset a;\n" {
		t.Errorf("%q", text)
	}
}

// Nothing is kept: a text tells the same whatever was read, refused or shown ahead of it.
func TestNothingIsKept(t *testing.T) {
	want := read(t, program)
	shown := show(t, want)
	for _, text := range []string{"h q[", "}", deep(33, ""), deep(32, ""), "$", strings.Repeat(";", 65537), "", "repeat " + above} {
		parse.Parse(text)
		parse.Show([]api.Row{use(text)})
		parse.Show([]api.Row{use(strings.Repeat("a", 70000))})
		if !same(read(t, program), want) || show(t, want) != shown {
			t.Errorf("behind %.20q the answer is another", text)
		}
	}
}
