package parse_test

import (
	"slices"
	"strconv"
	"strings"
	"testing"

	"cubit/api"
	"cubit/parse"
)

// P10.1: Show, by its words.
func TestShow(t *testing.T) {
	for _, c := range []struct {
		rows []api.Row
		text string
	}{
		{[]api.Row{{Kind: "qubits", Name: "q", Num: 2}}, "qubits q 2;\n"},
		{[]api.Row{{Kind: "bits", Name: "c"}}, "bits c 0;\n"},
		{[]api.Row{{Kind: "gate", Name: "g"}}, "gate g {\n}\n"},
		{[]api.Row{{Kind: "gate", Name: "g", Args: args(arg("a"), arg("b"))}}, "gate g a b {\n}\n"},
		{[]api.Row{{Kind: "repeat", Num: 1<<53 - 1}}, "repeat 9007199254740991 {\n}\n"},
		{[]api.Row{{Kind: "if", Name: "c", Num: 10}}, "if c 10 {\n}\n"},
		{[]api.Row{{Kind: "measure", Args: args(arg("q"), arg("c"))}}, "measure q c;\n"},
		{[]api.Row{{Kind: "measure", Args: args(at("q", 0), at("c", 1))}}, "measure q[0] c[1];\n"},
		{[]api.Row{{Kind: "reset", Args: args(arg("q"))}}, "reset q;\n"},
		{[]api.Row{{Kind: "reset", Args: args(at("q", 1<<53-1))}}, "reset q[9007199254740991];\n"},
		{[]api.Row{use("h")}, "h;\n"},
		{[]api.Row{use("use", arg("use"))}, "use use;\n"},
		{[]api.Row{use("ccx", at("q", 0), arg("r"), at("s", 20))}, "ccx q[0] r s[20];\n"},
		{[]api.Row{{Kind: "use", Name: "h", Args: []api.Arg{}}}, "h;\n"},
		{[]api.Row{use("h"), use("x")}, "h;\nx;\n"},
		{[]api.Row{{Kind: "gate", Name: "g", Rows: 4}, {Kind: "if", Name: "c", Rows: 2}, use("h"), {Kind: "repeat"}, use("x"), use("y")},
			"gate g {\n  if c 0 {\n    h;\n    repeat 0 {\n    }\n  }\n  x;\n}\ny;\n"},
		{[]api.Row{{Kind: "repeat", Rows: 1}, {Kind: "bits", Name: "c", Num: 1}, {Kind: "repeat"}, {Kind: "repeat"}},
			"repeat 0 {\n  bits c 1;\n}\nrepeat 0 {\n}\nrepeat 0 {\n}\n"},
	} {
		if text, e := parse.Show(c.rows); text != c.text || e != api.OK {
			t.Errorf("Show(%v): %q, %d, not %q", c.rows, text, e, c.text)
		}
	}
}

// Numbers in decimal, without leading noughts, whatever the text had.
func TestShownNumbers(t *testing.T) {
	rows := read(t, "repeat 00 { qubits q 007; } if c 0"+most+" { } h q[000] r[010];")
	if text := show(t, rows); text != "repeat 0 {\n  qubits q 7;\n}\nif c "+most+" {\n}\nh q[0] r[10];\n" {
		t.Errorf("%q", text)
	}
	for _, n := range []int{0, 1, 9, 10, 99, 100, 1000000, 1<<31 - 1, 1 << 31, 1<<53 - 2, 1<<53 - 1} {
		digits := strconv.Itoa(n)
		if text := show(t, []api.Row{{Kind: "bits", Name: "c", Num: n}, use("h", at("q", n))}); text != "bits c "+digits+";\nh q["+digits+"];\n" {
			t.Errorf("%d: %q", n, text)
		}
	}
}

// Places are not looked at.
func TestShowPassesPlaces(t *testing.T) {
	s := source(4)
	for _, text := range somePrograms(5, 100) {
		rows := read(t, text)
		want := show(t, rows)
		for j := range rows {
			rows[j].Place = append([]int{0, -1, 1, 65537}, ends...)[s.next(4+len(ends))]
		}
		if got := show(t, rows); got != want {
			t.Errorf("%q: %q, not %q", text, got, want)
		}
	}
}

// lineOf is a row's line by its Kind, whatever its fields hold; false, if the Kind has none.
func lineOf(row api.Row) (string, bool) {
	words := []string{row.Kind, row.Name}
	for _, a := range row.Args {
		if words = append(words, a.Name); a.Index != -1 {
			words = append(words, "[", strconv.Itoa(a.Index), "]")
		}
	}
	num := strconv.Itoa(row.Num)
	switch row.Kind {
	case "qubits", "bits":
		words = append(words, num, ";")
	case "gate":
		words = append(words, "{")
	case "repeat":
		words = append(slices.Delete(words, 1, 2), num, "{")
	case "if":
		words = append(words, num, "{")
	case "measure", "reset":
		words = append(slices.Delete(words, 1, 2), ";")
	case "use":
		words = append(words[1:], ";")
	default:
		return "", false
	}
	return strings.NewReplacer(" ;", ";", " [ ", "[", " ]", "]").Replace(strings.Join(words, " ")), true
}

// shown is the text of rows, line by line, the ends of all open bodies kept in a list. Of rows that aren't right it is some text; false, if there is none.
func shown(rows []api.Row) (string, bool) {
	text := ""
	open := []int{len(rows)} // where the bodies end
	depth := func() string { return strings.Repeat("  ", len(open)-1) }
	for j := 0; ; j++ {
		for len(open) > 1 && open[len(open)-1] == j {
			open = open[:len(open)-1]
			text += depth() + "}\n"
		}
		if j == len(rows) {
			return text, true
		}
		line, ok := lineOf(rows[j])
		if !ok {
			return "", false
		}
		text += depth() + line + "\n"
		if strings.HasSuffix(line, "{") {
			count := max(0, min(rows[j].Rows, open[len(open)-1]-j-1))
			open = append(open, j+1+count)
		}
	}
}

// right: are these the rows of some program, but for their Places? Then they are those of the text that is made of them.
func right(rows []api.Row) bool {
	text, ok := shown(rows)
	again, _, e := parse.Parse(text)
	return ok && e == api.OK && same(bare(again), bare(rows))
}

// checkShow holds Show against that, and tells whether it took the rows.
func checkShow(t *testing.T, rows []api.Row) bool {
	t.Helper()
	text, e := parse.Show(rows)
	is := right(rows)
	want, _ := shown(rows)
	if is && (text != want || e != api.OK) || !is && (text != "" || e != api.ErrSyntax) {
		t.Fatalf("Show(%v): %q, %d, not %t, %q", rows, text, e, is, want)
	}
	return is
}

func TestShowOfSomePrograms(t *testing.T) {
	for _, text := range somePrograms(6, 1000) {
		if rows := read(t, text); !checkShow(t, rows) {
			t.Fatalf("the rows of %q aren't right", text)
		}
	}
}

// spoilRow changes something about one of the rows.
func (s *source) spoilRow(rows []api.Row) {
	row := &rows[s.next(len(rows))]
	number := append([]int{-3, -2, -1, -1, 0, 0, 1, 1, 2, 3, 4, 1<<53 - 1}, ends...)[s.next(12+len(ends))]
	name := append([]string{"q", "use", "h", "_9"}, notPlain...)[s.next(4+len(notPlain))]
	switch s.next(8) {
	case 0:
		row.Kind = append([]string{"use", "use", "Use", "h", ""}, ownWords...)[s.next(5+len(ownWords))]
	case 1:
		row.Name = name
	case 2:
		row.Num = number
	case 3:
		row.Rows = number
	case 4:
		row.Rows += s.next(3) - 1
	case 5:
		row.Args = append(slices.Clone(row.Args), api.Arg{Name: name, Index: number})
	case 6:
		if len(row.Args) > 0 {
			row.Args = slices.Delete(slices.Clone(row.Args), 0, 1)
		}
	case 7:
		if len(row.Args) > 0 {
			row.Args = slices.Clone(row.Args)
			row.Args[s.next(len(row.Args))] = api.Arg{Name: s.one(name, "q"), Index: number}
		}
	}
}

func TestShowOfSpoiltRows(t *testing.T) {
	s := source(7)
	taken, not := 0, 0
	for _, text := range somePrograms(8, 1000) {
		rows := read(t, text)
		for range 8 {
			changed := slices.Clone(rows)
			for range 1 + s.next(2) {
				if len(changed) > 0 {
					s.spoilRow(changed)
				}
			}
			if checkShow(t, changed) {
				taken++
			} else {
				not++
			}
		}
	}
	if taken < 500 || not < 3000 {
		t.Errorf("%d taken, %d not", taken, not)
	}
}

// All lists of up to four rows with and without bodies, and all Rows from -1 to 4.
func TestAllShortLists(t *testing.T) {
	taken, not := 0, 0
	var try func(rows []api.Row, more int)
	try = func(rows []api.Row, more int) {
		if checkShow(t, rows) {
			taken++
		} else {
			not++
		}
		if more == 0 {
			return
		}
		for count := -1; count <= 4; count++ {
			for _, row := range []api.Row{{Kind: "repeat", Rows: count}, {Kind: "use", Name: "h", Rows: count}} {
				try(append(slices.Clone(rows), row), more-1)
			}
		}
	}
	try(nil, 4)
	// A row is a use or a tree of rows: 1, 2, 6, 22, 90 lists.
	if taken != 121 || taken+not != 1+12+144+1728+20736 {
		t.Errorf("%d taken, %d not", taken, not)
	}
}
