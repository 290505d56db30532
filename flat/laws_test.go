package flat_test

import (
	"slices"
	"strings"
	"testing"

	"cubit/api"
	"cubit/circuit"
	"cubit/flat"
	"cubit/parse"
)

// spliced is rows with others in the place of row i and its body; the bodies in which it stands are as long as that asks.
func spliced(rows []api.Row, i int, others []api.Row) []api.Row {
	r := reading{rows: rows}
	around := r.around(i)
	more := slices.Concat(rows[:i], others, rows[i+1+rows[i].Rows:])
	for _, j := range around {
		more[j].Rows += len(others) - 1 - rows[i].Rows
	}
	return more
}

// writtenOut is the rows with a repeat, or a use of a defined gate, written out; false, if row i is none.
func writtenOut(rows []api.Row, i int) ([]api.Row, bool) {
	row := rows[i]
	if row.Kind == "repeat" && row.Num <= 600 {
		return spliced(rows, i, slices.Repeat(rows[i+1:i+1+row.Rows], row.Num)), true
	}
	r := reading{rows: rows}
	j, ok := r.ahead(i, "gate", row.Name)
	if row.Kind != "use" || !ok {
		return nil, false
	}
	var body []api.Row
	for _, in := range rows[j+1 : j+1+rows[j].Rows] {
		if in.Kind == "use" {
			args := slices.Clone(in.Args)
			for k, a := range args {
				args[k] = row.Args[slices.Index(rows[j].Args, a)]
			}
			in.Args = args
		}
		body = append(body, in)
	}
	return spliced(rows, i, body), true
}

// P12.4: a repeat or a use written out changes no circuit.
func TestWrittenOut(t *testing.T) {
	s := source(7)
	repeats, uses, inGates := 0, 0, 0
	for range 1500 {
		rows := s.program()
		want, _, e := flat.Flat(rows)
		if e != api.OK {
			continue
		}
		for i := range rows {
			out, ok := writtenOut(rows, i)
			if !ok {
				continue
			}
			if c, place, e := flat.Flat(out); e != api.OK || place != 0 || !same(c, want) {
				t.Fatalf("row %d of %v written out: %v, %d, %d, not %v", i, rows, few(c), place, e, few(want))
			}
			r := reading{rows: rows}
			if around := r.around(i); len(around) > 0 && rows[around[0]].Kind == "gate" {
				inGates++
			}
			if rows[i].Kind == "repeat" {
				repeats++
			} else {
				uses++
			}
		}
	}
	if repeats < 1000 || uses < 500 || inGates < 300 {
		t.Errorf("%d repeats, %d uses, %d of both in definitions", repeats, uses, inGates)
	}
}

// P12.4: all repeats and uses written out, until none is left, leave a program of operations and ifs alone, whose circuit is the same.
func TestAllWrittenOut(t *testing.T) {
	s := source(70)
	tried := 0
	for range 400 {
		rows := s.program()
		want, _, e := flat.Flat(rows)
		if e != api.OK || len(want.Ops) > 300 {
			continue
		}
		for i := 0; i < len(rows) && len(rows) < 5000; {
			out, ok := writtenOut(rows, i)
			if ok {
				rows = out
			} else {
				i++
			}
		}
		if len(rows) >= 5000 {
			continue
		}
		tried++
		if c, place, e := flat.Flat(rows); e != api.OK || place != 0 || !same(c, want) {
			t.Fatalf("%v: %v, %d, %d, not %v", rows, few(c), place, e, few(want))
		}
	}
	if tried < 200 {
		t.Errorf("%d tried alone", tried)
	}
}

// P12.4: where the rows written out are nested too deep, they are no program any more.
func TestWrittenOutTooDeep(t *testing.T) {
	text := "qubits q 1; gate g a { " + strings.Repeat("repeat 1 { ", 31) + "x a; " + strings.Repeat("} ", 31) + "} repeat 1 { repeat 1 { g q[0]; } }"
	rows := parsed(t, text)
	flattens(t, rows, of(1, 0, gate("x", 0)))
	out, ok := writtenOut(rows, len(rows)-1)
	if _, _, e := flat.Flat(out); !ok || e != api.ErrDeep {
		t.Errorf("%v, %d", ok, e)
	}
}

// P12.2: what comes of a program is told as a program of which the same comes; and that one is told as the same text.
func TestThereAndBack(t *testing.T) {
	s := source(8)
	tried := 0
	for range 1200 {
		c, _, e := flat.Flat(s.program())
		if e != api.OK {
			continue
		}
		if _, e := flat.Show(c); e == api.ErrLong {
			continue
		}
		tried++
		text := back(t, c)
		rows := parsed(t, text)
		if again, e := parse.Show(rows); again != text || e != api.OK {
			t.Fatalf("%q is shown as %q, %d", text, again, e)
		}
		for _, row := range rows {
			if row.Kind == "gate" || row.Kind == "repeat" {
				t.Fatalf("a %s in %q", row.Kind, text)
			}
		}
	}
	if tried < 600 {
		t.Errorf("%d tried alone", tried)
	}
}

// P12.3: what comes is a circuit, and has the qubits and bits of the registers, whatever else there is.
func TestWhatComesIsACircuit(t *testing.T) {
	s := source(9)
	for range 2000 {
		rows := s.program()
		c, _, e := flat.Flat(rows)
		if e != api.OK {
			continue
		}
		r := reading{rows: rows}
		if c.Qubits != r.together(len(rows), "qubits") || c.Bits != r.together(len(rows), "bits") {
			t.Fatalf("%v: %v", rows, few(c))
		}
		if at, e := circuit.Check(c); at != 0 || e != api.OK {
			t.Fatalf("Check(%v): %d, %d", c, at, e)
		}
	}
}

// Read is Flat of what Parse tells, places included: blanks and remarks move these alone.
func TestReadIsFlatOfParse(t *testing.T) {
	s := source(10)
	count := map[api.Errno]int{}
	for j := range 1500 {
		rows := s.program()
		if j%2 == 1 {
			rows = s.spoil(rows)
		}
		text, e := parse.Show(rows)
		if e != api.OK {
			continue
		}
		wide := strings.ReplaceAll(text, ";", " ;\t# a remark\n")
		for _, text := range []string{text, wide} {
			c, place, e := flat.Read(text)
			d, there, f := flat.Flat(parsed(t, text))
			if !same(c, d) || place != there || e != f {
				t.Fatalf("Read(%q): %v, %d, %d, not %v, %d, %d", text, few(c), place, e, few(d), there, f)
			}
			if want, _, f := reckoned(parsed(t, text)); e != f || !same(c, want) {
				t.Fatalf("Read(%q): %v, %d, not %v, %d", text, few(c), e, few(want), f)
			}
			count[e]++
		}
	}
	if count[api.OK] < 1000 || len(count) < 8 {
		t.Errorf("%v", count)
	}
}
