package parse_test

import (
	"math"
	"slices"
	"strconv"
	"strings"
	"testing"

	"cubit/api"
	"cubit/parse"
)

// refused: Parse must tell this place and error, and no rows.
func refused(t *testing.T, text string, place int, e api.Errno) {
	t.Helper()
	rows, gotPlace, got := parse.Parse(text)
	if len(rows) != 0 || gotPlace != place || got != e {
		t.Errorf("Parse(%.60q): %d rows, %d, %d, not %d, %d", text, len(rows), gotPlace, got, place, e)
	}
}

// A token with which no program can go on, and its place.
func TestSyntax(t *testing.T) {
	for text, place := range map[string]int{
		"measure q[0];": 12, "qubits if 2;": 7, "}": 0, // the chapter's
		"{": 0, "[": 0, "]": 0, ";": 0, ",": 0, "3": 0, "3;": 0, "h;;": 2, "h; }": 3, "{ }": 0, "# x\n }": 5,
		"qubits;": 6, "qubits 2 q;": 7, "qubits q;": 8, "qubits q r 2;": 9, "qubits q[2];": 8, "qubits q 2 3;": 11, "qubits q 2 }": 11, "qubits q 2 {": 11, "qubits q, 2;": 8, "qubits qubits 2;": 7, "qubits bits c 2;": 7,
		"bits;": 4, "bits 2;": 5, "bits c;": 6, "bits c 1 c": 9, "bits gate 1;": 5, "bits c {": 7,
		"gate { }": 5, "gate 1 { }": 5, "gate g;": 6, "gate g 2 { }": 7, "gate g a[0] { }": 8, "gate g a, b { }": 8, "gate g a }": 9, "gate g[": 6, "gate if { }": 5, "gate g a reset { }": 9, "gate g { ; }": 9, "gate g { } ;": 11, "gate g { } }": 11, "gate g { { } }": 9, "gate g { 2 }": 9,
		"repeat { }": 7, "repeat n { }": 7, "repeat 2; ": 8, "repeat 2 3 { }": 9, "repeat 2 h;": 9, "repeat 2 }": 9, "repeat 2 [": 9, "repeat if": 7, "repeat ;": 7, "repeat 1 { } }": 13, "repeat 1 { h q } ": 15,
		"if { }": 3, "if 1 c { }": 3, "if c { }": 5, "if c[0] 1 { }": 4, "if c 1;": 6, "if c 1 h;": 7, "if c c 1 { }": 5, "if if 1 { }": 3, "if c 1 }": 7, "if c, 1 { }": 4,
		"measure;": 7, "measure q;": 9, "measure q c d;": 12, "measure q[0] c[0] d;": 18, "measure q, c;": 9, "measure 0 c;": 8, "measure q[c] c;": 10, "measure q[0;": 11, "measure q[] c;": 10, "measure q[0 1] c;": 12, "measure q[0]]": 12, "measure q[0][1] c;": 12, "measure q c[0][1];": 14, "measure q reset;": 10, "measure measure c;": 8, "measure q {": 10, "measure q c }": 12, "measure q 0 c;": 10,
		"reset;": 5, "reset q r;": 8, "reset 0;": 6, "reset q[0] 1;": 11, "reset [0];": 6, "reset reset q;": 6, "reset q{": 7,
		"h 0;": 2, "h q 0;": 4, "h [0];": 2, "h[0];": 1, "h q,r;": 3, "h q, r;": 3, "h q[r];": 4, "h q[[0]];": 4, "h q[0]];": 6, "h q[0}": 5, "h q[0] {": 7, "h q }": 4, "h {": 2, "h }": 2, "h if;": 2, "h q gate;": 4, "h q[if];": 4, "h q[,": 4, "h q[;": 4, "h q[}": 4, "h q[{": 4, "h q[0,": 5, "h q[0[": 5, "h q[0 r": 6,
		"use if;": 4, "Qubits q 2;": 9,
	} {
		refused(t, text, place, api.ErrSyntax)
		refused(t, text+" h q[", place, api.ErrSyntax) // what is behind it isn't looked at
		refused(t, "h;"+text, place+2, api.ErrSyntax)
	}
}

// Each word of its own, wherever a plain name is wanted.
func TestOwnWordsAsNames(t *testing.T) {
	for _, word := range ownWords {
		for _, form := range []string{"qubits W 1;", "bits W 1;", "gate W { }", "gate g W { }", "gate g a b W { }", "if W 1 { }", "measure W c;", "measure q W;", "measure q[0] W[0];", "reset W;", "reset W[0];", "h W;", "h W[0];", "h q W;", "h q[1] W;", "repeat 1 { h W; }"} {
			refused(t, strings.Replace(form, "W", word, 1), strings.Index(form, "W"), api.ErrSyntax)
		}
	}
}

// Wherever the tokens of a statement end too early, and wherever a body isn't closed: the text's length.
func TestEndsTooEarly(t *testing.T) {
	for _, tokens := range []string{
		"qubits q 2 ;", "bits c 3 ;", "gate g a b { }", "repeat 4 { }", "if c 5 { }", "measure q [ 6 ] c [ 1 ] ;", "measure q c ;", "reset q [ 7 ] ;", "reset q ;", "h ;", "h q r [ 8 ] s ;",
		"repeat 1 { h ; if c 1 { gate g a { x a ; } } }",
	} {
		list := strings.Fields(tokens)
		for count := 1; count < len(list); count++ {
			for _, ahead := range []string{"", "h; ", "repeat 2 { } ", "repeat 2 { ", "gate g { if c 1 { h; "} {
				for _, behind := range []string{"", " ", "\n\n", " # a remark", "#\n"} {
					text := ahead + strings.Join(list[:count], " ") + behind
					refused(t, text, len(text), api.ErrEnd)
				}
			}
		}
	}
	for _, text := range []string{"h q[0]", "h q[", "gate g { ", "repeat 1 {", "repeat 1 { h;", "if c 1 { repeat 2 { } ", deep(32, "")[:351], "h # ;"} {
		refused(t, text, len(text), api.ErrEnd)
	}
}

// A number of one more than MaxPart, and greater ones, where a number fits.
func TestNumbersTooGreat(t *testing.T) {
	numbers := []string{above, "0" + above, strings.Repeat("0", 60000) + above, "9999999999999999", "10000000000000000", "9223372036854775807", "9223372036854775808", "18446744073709551615", "18446744073709551616", "18446744073709551617", "99999999999999999999999", "1" + strings.Repeat("0", 60000), strings.Repeat("9", 60000)}
	for _, number := range numbers {
		for _, form := range []string{"qubits q N;", "bits q N;", "repeat N{}", "if q N{}", "measure q[N]c;", "measure q c[N];", "reset q[N];", "h q[N];", "h q r[N] s;", "repeat 1 { h q[N]; }", "h q[N", "repeat N", "repeat N ;", "qubits q N }", "h q[N r"} {
			refused(t, strings.Replace(form, "N", number, 1), strings.Index(form, "N"), api.ErrLong)
		}
		// Where no number fits, its size doesn't matter.
		for _, form := range []string{"N", "h N;", "h q N;", "gate N", "qubits N 2;", "repeat 1 N {", "measure N", "if N", "h q[0 N", "repeat 1 { N }"} {
			refused(t, strings.Replace(form, "N", number, 1), strings.Index(form, "N"), api.ErrSyntax)
		}
	}
	refused(t, "repeat "+above+" { }", 7, api.ErrLong) // the chapter's
}

// The { of a body one deeper than MaxDepth, of each kind, whatever is behind it; but a fault ahead of it comes first.
func TestTooDeep(t *testing.T) {
	refused(t, deep(33, ""), 329, api.ErrDeep)
	for _, head := range heads {
		for _, around := range heads {
			open := strings.Repeat(around, 32)
			place := len(open) + len(head) - 1
			for _, behind := range []string{"", "}", strings.Repeat("}", 33), "]", ";", "h q", "h q[" + above, "repeat " + above, strings.Repeat("}", 40), strings.Repeat(head, 1000)} {
				refused(t, open+head+behind, place, api.ErrDeep)
				refused(t, "h; "+open+"h;repeat 1;"+head+behind, 3+len(open)+10, api.ErrSyntax)
			}
		}
	}
	open := strings.Repeat("repeat 1 {", 32)
	refused(t, open+"repeat "+above+" {", 327, api.ErrLong)
	refused(t, open+"repeat {", 327, api.ErrSyntax)
	refused(t, open+"gate if {", 325, api.ErrSyntax)
	refused(t, open+"if c 1", 326, api.ErrEnd)
	refused(t, open+"{", 320, api.ErrSyntax)
	refused(t, open+"repeat 1 { $", 331, api.ErrLex)
	refused(t, strings.Repeat("repeat 1{", 7281), 9*33-1, api.ErrDeep)
	refused(t, strings.Repeat("repeat 1{", 7281)+" ", 9*33-1, api.ErrDeep)
}

// lex's errors come with their places, ahead of all others.
func TestErrorsOfLex(t *testing.T) {
	for text, place := range map[string]int{"$": 0, "h $;": 2, "h 3q;": 3, "} ; $": 4, "h q[" + above + "] -": 22, "é": 0, "h;\n\xff": 3, "h q[-1];": 4, "h q(0);": 3, "gate g { \x00": 9, "qubits q 2x;": 10} {
		refused(t, text, place, api.ErrLex)
	}
	for _, text := range []string{strings.Repeat("h;", 32768) + " ", strings.Repeat("}", 65537), strings.Repeat("$", 65537), strings.Repeat(" ", 65537), strings.Repeat("repeat 1{", 10000)} {
		refused(t, text, 0, api.ErrLong)
	}
}

// ends are numbers at both ends of int, and others that no number of a program is.
var ends = []int{math.MinInt, math.MinInt + 1, -1 << 53, math.MinInt32, -2, math.MaxInt, math.MaxInt - 1, 1 << 53, 1<<53 + 1}

// notPlain are no plain names.
var notPlain = append([]string{"", " ", "9", "0a", "a b", " a", "a ", "a;", "a#", "a-b", "é", "\x00", "a\n", "a[0]", "{", ";", "[", "]", "3", "-1", "a\xff"}, ownWords...)

// wrong: Show must refuse these rows with ErrSyntax, alone and wherever they stand.
func wrong(t *testing.T, rows ...api.Row) {
	t.Helper()
	h := use("h")
	loop := api.Row{Kind: "repeat", Rows: len(rows)}
	inner := append([]api.Row{loop}, rows...)
	for _, all := range [][]api.Row{
		rows,
		append([]api.Row{h}, rows...),
		inner,
		append([]api.Row{{Kind: "if", Name: "c", Rows: len(inner)}}, inner...),
	} {
		if text, e := parse.Show(all); text != "" || e != api.ErrSyntax {
			t.Errorf("Show(%v): %q, %d", few(all), text, e)
		}
	}
}

// each is a right row of each kind.
func each() []api.Row {
	return []api.Row{
		{Kind: "qubits", Name: "q", Num: 2},
		{Kind: "bits", Name: "c", Num: 2},
		{Kind: "gate", Name: "g", Args: args(arg("a"), arg("b"))},
		{Kind: "repeat", Num: 2},
		{Kind: "if", Name: "c", Num: 2},
		{Kind: "measure", Args: args(at("q", 1), arg("c"))},
		{Kind: "reset", Args: args(at("q", 1))},
		{Kind: "use", Name: "h", Args: args(at("q", 1), arg("r"))},
	}
}

func TestWrongKinds(t *testing.T) {
	for _, row := range each() {
		for _, kind := range []string{"", " ", "Use", "USE", "h", "Qubits", "qubit", "gates", "{", "use ", " use", "qubits\x00", "repeat;", "name"} {
			row.Kind = kind
			wrong(t, row)
		}
	}
	wrong(t, api.Row{})
}

func TestWrongNames(t *testing.T) {
	for _, row := range each() {
		if row.Name == "" {
			for _, name := range []string{"q", "h", "if", " ", "\x00", row.Kind} {
				row.Name = name
				wrong(t, row)
			}
			continue
		}
		for _, name := range append(notPlain, row.Kind) {
			if name != "use" {
				row.Name = name
				wrong(t, row)
			}
		}
	}
}

func TestWrongNums(t *testing.T) {
	for _, row := range each() {
		takes := row.Num != 0
		for _, num := range append([]int{-1}, ends...) {
			row.Num = num
			wrong(t, row)
		}
		if !takes {
			for _, num := range []int{1, 2, 1<<53 - 1} {
				row.Num = num
				wrong(t, row)
			}
		}
	}
}

func TestWrongArgs(t *testing.T) {
	for _, row := range each() {
		right := row.Args
		for j := range right {
			for _, name := range notPlain {
				row.Args = slices.Clone(right)
				row.Args[j].Name = name
				wrong(t, row)
			}
			indices := ends
			if row.Kind == "gate" {
				indices = append([]int{0, 1, 1<<53 - 1}, ends...)
			}
			for _, index := range indices {
				row.Args = slices.Clone(right)
				row.Args[j].Index = index
				wrong(t, row)
			}
		}
		if row.Kind == "gate" || row.Kind == "use" {
			continue
		}
		for count := range 5 {
			if count != len(right) {
				row.Args = slices.Repeat(args(arg("q")), count)
				wrong(t, row)
			}
		}
	}
}

func TestWrongRows(t *testing.T) {
	h := use("h")
	for _, row := range each() {
		body := row.Kind == "gate" || row.Kind == "repeat" || row.Kind == "if"
		for _, count := range append([]int{-1}, ends...) {
			row.Rows = count
			wrong(t, row)
			wrong(t, row, h)
		}
		for count := 1; count < 4; count++ {
			row.Rows = count
			wrong(t, append([]api.Row{row}, slices.Repeat([]api.Row{h}, count-1)...)...) // one too few behind it
			if !body {
				wrong(t, append([]api.Row{row}, slices.Repeat([]api.Row{h}, count)...)...)
			}
		}
	}
	loop := func(rows int) api.Row { return api.Row{Kind: "repeat", Rows: rows} }
	// There are enough behind, but not within the body in which it stands.
	wrong(t, loop(1), loop(1), h)
	wrong(t, loop(2), h, loop(1), h)
	wrong(t, loop(2), loop(2), h, h)
	wrong(t, loop(3), loop(1), loop(2), h, h)
	wrong(t, loop(4), h, loop(1), h, loop(1), h)
	for count := range 6 {
		if _, e := parse.Show([]api.Row{loop(count), h, loop(0), h, h}); (e == api.OK) != (count <= 4) {
			t.Errorf("%d rows of four behind: %d", count, e)
		}
	}
}

// nest is n bodies in one another, the last of these rows in them.
func nest(n int, inner ...api.Row) []api.Row {
	var rows []api.Row
	for j := range n {
		row := []api.Row{{Kind: "repeat"}, {Kind: "gate", Name: "g"}, {Kind: "if", Name: "c"}}[j%3]
		row.Rows = n - 1 - j + len(inner)
		rows = append(rows, row)
	}
	return append(rows, inner...)
}

// Rows of statements in MaxDepth bodies are right, of those with a body in MaxDepth they aren't.
func TestDepthOfRows(t *testing.T) {
	for _, row := range each() {
		body := row.Kind == "gate" || row.Kind == "repeat" || row.Kind == "if"
		for n := 28; n < 37; n++ {
			text, e := parse.Show(nest(n, row))
			right := n < 32 || n == 32 && !body
			if right && (e != api.OK || !same(bare(read(t, text)), nest(n, row))) || !right && (e != api.ErrSyntax || text != "") {
				t.Errorf("%s in %d: %d", row.Kind, n, e)
			}
		}
	}
	for _, n := range []int{33, 64, 1000, 100000} {
		if text, e := parse.Show(nest(n)); e != api.ErrSyntax || text != "" {
			t.Errorf("%d bodies: %d", n, e)
		}
	}
}

// Rows that aren't right are told ahead of the length, wherever they stand.
func TestWrongRowsAheadOfLength(t *testing.T) {
	long := use(strings.Repeat("a", 70000))
	for _, row := range []api.Row{{}, {Kind: "use"}, use("if"), use("h", at("q", -2)), {Kind: "repeat", Rows: 9}, use(strings.Repeat("a", 70000) + "-")} {
		for _, rows := range [][]api.Row{{long, row}, {row, long}, append(slices.Repeat([]api.Row{use("h")}, 70000), row)} {
			if text, e := parse.Show(rows); text != "" || e != api.ErrSyntax {
				t.Errorf("with %.40v: %d", row, e)
			}
		}
	}
}

// What is right but too long: ErrLong, and no more of it is made than MaxSource.
func TestShownTooLong(t *testing.T) {
	h := use("h")
	for _, c := range []struct {
		rows []api.Row
		size int // of the text
	}{
		{[]api.Row{use(strings.Repeat("a", 65534))}, 65536},
		{[]api.Row{use(strings.Repeat("a", 65535))}, 65537},
		{slices.Repeat([]api.Row{use("ab")}, 16384), 65536},
		{append(slices.Repeat([]api.Row{use("ab")}, 16383), use("abc")), 65537},
		{slices.Repeat([]api.Row{h}, 21845), 65535},
		{slices.Repeat([]api.Row{h}, 21846), 65538},
		{slices.Repeat([]api.Row{h}, 1000000), 3000000},
		{[]api.Row{use("h", slices.Repeat(args(arg("q")), 32766)...)}, 65535},
		{[]api.Row{use("hh", slices.Repeat(args(arg("q")), 32766)...)}, 65536},
		{[]api.Row{use("h", slices.Repeat(args(arg("q")), 32767)...)}, 65537},
		{[]api.Row{use("h", at(strings.Repeat("q", 65521), 123456789))}, 65536},
		{[]api.Row{use("h", at(strings.Repeat("q", 65522), 123456789))}, 65537},
		{[]api.Row{{Kind: "bits", Name: strings.Repeat("q", 65512), Num: 1<<53 - 1}}, 65536},
		{[]api.Row{{Kind: "bits", Name: strings.Repeat("q", 65513), Num: 1<<53 - 1}}, 65537},
		{[]api.Row{{Kind: "gate", Name: strings.Repeat("q", 65526)}}, 65536}, // the last of it is the } and its line end
		{[]api.Row{{Kind: "gate", Name: strings.Repeat("q", 65527)}}, 65537},
		{[]api.Row{{Kind: "gate", Name: strings.Repeat("q", 65528)}}, 65538},
		{[]api.Row{{Kind: "gate", Name: strings.Repeat("q", 65529)}}, 65539},
		{nest(32, use(strings.Repeat("q", 60000))), 62424},
		{[]api.Row{{Kind: "repeat", Rows: 1}, use(strings.Repeat("q", 65519))}, 65536},
		{[]api.Row{{Kind: "repeat", Rows: 1}, use(strings.Repeat("q", 65520))}, 65537},
	} {
		text, e := parse.Show(c.rows)
		if c.size <= 65536 && (e != api.OK || len(text) != c.size) || c.size > 65536 && (e != api.ErrLong || text != "") {
			t.Errorf("%.60s, to be of %d bytes: %d bytes, %d", c.rows[0].Kind+" "+c.rows[0].Name, c.size, len(text), e)
		}
	}
}

// Numbers at both ends of their type wherever a row has one: Show ends, and refuses them.
func TestShowOfExtremes(t *testing.T) {
	for _, row := range each() {
		for _, n := range append([]int{-1}, ends...) {
			for field := range 2 {
				changed := row
				if field == 0 {
					changed.Num = n
				} else {
					changed.Rows = n
				}
				if text, e := parse.Show([]api.Row{changed, changed, changed}); text != "" || e != api.ErrSyntax {
					t.Errorf("%v with %s: %q, %d", row, strconv.Itoa(n), text, e)
				}
			}
		}
	}
}
