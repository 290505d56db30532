package gate_test

import (
	"slices"
	"testing"

	"cubit/api"
	"cubit/gate"
)

// mark is what the tests write over: no gate has it.
var mark = api.Amp{R: api.Ring{A: 77}}

// spoil writes over all of a matrix, and into the room behind each row and behind the last of them.
func spoil(m [][]api.Amp) {
	for x := range m {
		for y := range m[x] {
			m[x][y] = mark
		}
		m[x] = append(m[x], mark, mark, mark)
	}
	for x := range m[:cap(m)] {
		m[:cap(m)][x] = nil
	}
}

func TestNamesAreTheCallers(t *testing.T) {
	l := gate.Names()
	for j := range l {
		l[j] = "spoilt"
	}
	l = append(l[:0], "x")
	again := gate.Names()
	if len(again) != 25 || again[0] != "i" || slices.Contains(again, "spoilt") {
		t.Errorf("Names: %v", again)
	}
	again[1] = "spoilt"
	if l[0] != "x" || gate.Names()[1] != "x" {
		t.Error("two answers share memory")
	}
	if gate.Arity("spoilt") != 0 || gate.Arity("i") != 1 {
		t.Error("the names that are told are kept")
	}
}

func TestMatricesAreTheCallers(t *testing.T) {
	for _, name := range gate.Names() {
		m, other := matrix(t, name), matrix(t, name)
		before := write(m)
		spoil(m)
		if write(other) != before || write(matrix(t, name)) != before {
			t.Errorf("Matrix(%s) shares memory", name)
		}
	}
}

func TestColumnsAreTheCallers(t *testing.T) {
	for _, g := range told {
		for y := range 1 << g.qubits {
			rows, values, _ := gate.Column(g.name, y)
			otherRows, otherValues, _ := gate.Column(g.name, y)
			beforeRows, before := slices.Clone(rows), slices.Clone(values)
			for j := range rows {
				rows[j], values[j] = -1, mark
			}
			r, v, e := gate.Column(g.name, y)
			if e != api.OK || !slices.Equal(r, beforeRows) || !slices.Equal(v, before) || !slices.Equal(otherRows, beforeRows) || !slices.Equal(otherValues, before) {
				t.Errorf("Column(%s, %d) shares memory", g.name, y)
			}
		}
	}
}

// spare is a with room behind each row and behind the rows, and marks in it.
func spare(a [][]api.Amp) [][]api.Amp {
	m := make([][]api.Amp, 0, len(a)+2)
	for _, row := range a {
		m = append(m, append(append(make([]api.Amp, 0, len(row)+3), row...), mark, mark, mark)[:len(row)])
	}
	return append(m, []api.Amp{mark}, []api.Amp{mark})[:len(a)]
}

// whole is what stands in spare's list, its spare room included.
func whole(m [][]api.Amp) string {
	m = slices.Clone(m[:cap(m)])
	for x := range m {
		m[x] = m[x][:cap(m[x])]
	}
	return write(m)
}

func TestHandedInStays(t *testing.T) {
	s := source(7)
	for range 200 {
		n := 1 + s.next(4)
		a, b := spare(s.matrix(1+s.next(4), n, 9, 3)), spare(s.matrix(n, 1+s.next(4), 9, 3))
		beforeA, beforeB := whole(a), whole(b)
		m, e := gate.Mul(a, b)
		back, f := gate.Adjoint(a)
		gate.Unitary(a)
		if e != api.OK || f != api.OK {
			t.Fatal(e, f)
		}
		if whole(a) != beforeA || whole(b) != beforeB {
			t.Fatalf("changed: %s to %s, %s to %s", beforeA, whole(a), beforeB, whole(b))
		}
		wantM, wantBack := write(m), write(back)
		again, _ := gate.Mul(a, b)
		backAgain, _ := gate.Adjoint(a)
		spoil(m)
		spoil(back)
		if whole(a) != beforeA || whole(b) != beforeB || write(again) != wantM || write(backAgain) != wantBack {
			t.Fatal("an answer shares memory")
		}
		spoil(a)
		spoil(b)
		if write(again) != wantM || write(backAgain) != wantBack {
			t.Fatal("an answer shares memory with what was handed in")
		}
	}
}

// TestRowsShareNone lets each row of an answer grow: no other row may change.
func TestRowsShareNone(t *testing.T) {
	s := source(8)
	a, b := s.matrix(4, 4, 9, 3), s.matrix(4, 4, 9, 3)
	product, _ := gate.Mul(a, b)
	adjoint, _ := gate.Adjoint(a)
	for _, m := range [][][]api.Amp{product, adjoint, matrix(t, "ccx"), matrix(t, "cx"), matrix(t, "h")} {
		before := write(m)
		for _, row := range m {
			_ = append(row, mark, mark)
		}
		if write(m) != before {
			t.Errorf("%s became %s", before, write(m))
		}
	}
}

// TestOneMatrixTwice hands in one matrix as both, and one row as all rows.
func TestOneMatrixTwice(t *testing.T) {
	h := matrix(t, "h")
	if m, e := gate.Mul(h, h); e != api.OK || write(m) != write(eye(2)) || write(h) != write(matrix(t, "h")) {
		t.Errorf("h h: %s, %d", write(m), e)
	}
	row := []api.Amp{one, one}
	a := [][]api.Amp{row, row}
	if m, e := gate.Mul(a, a); e != api.OK || write(m) != "2,0 2,0; 2,0 2,0" || write(a) != "1,0 1,0; 1,0 1,0" {
		t.Errorf("%s, %d", write(m), e)
	}
	if m, e := gate.Adjoint(a); e != api.OK || write(m) != "1,0 1,0; 1,0 1,0" {
		t.Errorf("%s, %d", write(m), e)
	}
}
