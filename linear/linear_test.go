package linear_test

import (
	"math"
	"slices"
	"testing"

	"cubit/api"
	"cubit/linear"
)

// The faces' shapes are promised.
var (
	_ func(api.Linear) api.Errno                           = linear.Check
	_ func(int) (api.Linear, api.Errno)                    = linear.Eye
	_ func(api.Linear, api.Linear) (api.Linear, api.Errno) = linear.Mul
	_ func(api.Linear, uint64) (uint64, api.Errno)         = linear.Apply
	_ func(api.Linear) (int, api.Errno)                    = linear.Rank
	_ func(api.Linear) (api.Linear, api.Errno)             = linear.Inverse
	_ func(api.Circuit) (api.Linear, api.Errno)            = linear.From
	_ func(api.Linear) (api.Circuit, api.Errno)            = linear.Synth
)

func TestExamples(t *testing.T) {
	if m, e := linear.Eye(3); !same(m, matrix(1, 2, 4)) || e != api.OK {
		t.Errorf("Eye(3): %v, %d", m, e)
	}
	if m := from(t, on(2, "cx01")); !same(m, matrix(1, 3)) {
		t.Errorf("From of cx 0 1: %v", m)
	}
	if m := from(t, on(2, "swap01")); !same(m, matrix(2, 1)) {
		t.Errorf("From of swap 0 1: %v", m)
	}
	if m := mul(t, matrix(1, 3), matrix(2, 1)); !same(m, matrix(2, 3)) {
		t.Errorf("Mul(1 3, 2 1): %v", m)
	}
	if y := apply(t, matrix(1, 3), 1); y != 3 {
		t.Errorf("Apply(1 3, 1): %d", y)
	}
	if y, e := linear.Apply(matrix(1, 3), 4); y != 0 || e != api.ErrArg {
		t.Errorf("Apply(1 3, 4): %d, %d", y, e)
	}
	if r := rank(t, matrix(3, 3)); r != 1 {
		t.Errorf("Rank(3 3): %d", r)
	}
	singular(t, matrix(3, 3))
	if m := inverse(t, matrix(1, 3)); !same(m, matrix(1, 3)) {
		t.Errorf("Inverse(1 3): %v", m)
	}
	if r := rank(t, matrix(0, 0)); r != 0 {
		t.Errorf("Rank(0 0): %d", r)
	}
	if c := synth(t, matrix(1, 3)); !equal(c, on(2, "cx01")) { // of two qubits no shorter circuit tells it
		t.Errorf("Synth(1 3): %v", c)
	}
	if c := synth(t, matrix()); !empty(c) {
		t.Errorf("Synth of no rows: %v", c)
	}
	if m, e := linear.Eye(65); !none(m) || e != api.ErrArg {
		t.Errorf("Eye(65): %v, %d", m, e)
	}
	for _, c := range []api.Circuit{on(2, "h0"), {Qubits: 2, Bits: 1, Ops: []api.Op{when(gate("cx", 0, 1), 1, 1)}}} {
		if m, e := linear.From(c); !none(m) || e != api.ErrOp {
			t.Errorf("From(%v): %v, %d", c, m, e)
		}
	}
}

// P20.1: the matrix that changes no number, at both ends of how many rows there may be, and one beyond.
func TestEye(t *testing.T) {
	for n := range api.MaxRows + 1 {
		m, e := linear.Eye(n)
		if e != api.OK || m.N != n || len(m.Rows) != n {
			t.Fatalf("Eye(%d): %v, %d", n, m, e)
		}
		for i, row := range m.Rows {
			if row != 1<<i {
				t.Errorf("Eye(%d): row %d is %d", n, i, row)
			}
		}
	}
	for _, n := range []int{-1, -64, 65, 66, 128, math.MinInt, math.MaxInt, 1 << 32, -1 << 32} {
		if m, e := linear.Eye(n); !none(m) || e != api.ErrArg {
			t.Errorf("Eye(%d): %v, %d", n, m, e)
		}
	}
}

// P20.1: a row may be all that is below 2^N, and no more, wherever it stands.
func TestRowsAtTheBound(t *testing.T) {
	for n := range api.MaxRows + 1 {
		for at := range n {
			rows := eye(n).Rows
			rows[at] = last(n)
			if e := linear.Check(matrix(rows...)); e != api.OK {
				t.Errorf("row %d of %d is 2^%d - 1: %d", at, n, n, e)
			}
			if n == api.MaxRows {
				continue
			}
			for _, row := range []uint64{1 << n, 1<<n | 1, math.MaxUint64, 1 << 63} {
				rows[at] = row
				if e := linear.Check(matrix(rows...)); e != api.ErrArg {
					t.Errorf("row %d of %d is %d: %d", at, n, row, e)
				}
			}
		}
	}
}

// P20.1: as many rows as N says, from 0 to MaxRows.
func TestNumbersOfRows(t *testing.T) {
	for n := range api.MaxRows + 1 {
		for many := range api.MaxRows + 3 {
			e, want := linear.Check(api.Linear{N: n, Rows: make([]uint64, many)}), api.ErrArg
			if many == n {
				want = api.OK
			}
			if e != want {
				t.Errorf("N %d, %d rows: %d", n, many, e)
			}
		}
	}
	for _, n := range []int{-1, -2, -64, 65, 66, 128, math.MinInt, math.MaxInt, 1 << 32} {
		for _, many := range []int{0, 1, 64, 65, 66, 128} {
			if e := linear.Check(api.Linear{N: n, Rows: make([]uint64, many)}); e != api.ErrArg {
				t.Errorf("N %d, %d rows: %d", n, many, e)
			}
		}
	}
	for _, rows := range [][]uint64{nil, {}} {
		if e := linear.Check(api.Linear{Rows: rows}); e != api.OK {
			t.Errorf("no rows: %d", e)
		}
	}
}

// P20.1: a number may be all that is below 2^N, and no more.
func TestApplyAtTheBound(t *testing.T) {
	s := source(1)
	for n := range api.MaxRows + 1 {
		m := s.some(n)
		if y := apply(t, m, last(n)); y != put(m, last(n)) {
			t.Errorf("Apply(%v, 2^%d - 1): %d", m, n, y)
		}
		if n == api.MaxRows {
			continue
		}
		for _, x := range []uint64{1 << n, 1<<n | 1, math.MaxUint64, 1 << 63} {
			if y, e := linear.Apply(m, x); y != 0 || e != api.ErrArg {
				t.Errorf("Apply(%v, %d): %d, %d", m, x, y, e)
			}
		}
	}
	if y := apply(t, matrix(), 0); y != 0 {
		t.Errorf("no rows put onto 0: %d", y)
	}
}

// P20.1: no rows, one row.
func TestSmallest(t *testing.T) {
	for _, m := range []api.Linear{{}, {Rows: []uint64{}}} {
		if p := mul(t, m, m); !none(p) {
			t.Errorf("no rows multiplied: %v", p)
		}
		if r := rank(t, m); r != 0 {
			t.Errorf("the rank of no rows: %d", r)
		}
		if r := inverse(t, m); !none(r) {
			t.Errorf("the inverse of no rows: %v", r)
		}
	}
	if r := rank(t, matrix(1)); r != 1 {
		t.Errorf("Rank(1): %d", r)
	}
	if r := inverse(t, matrix(1)); !same(r, matrix(1)) {
		t.Errorf("Inverse(1): %v", r)
	}
	if c := synth(t, matrix(1)); !equal(c, on(1)) {
		t.Errorf("Synth(1): %v", c)
	}
	singular(t, matrix(0))
}

// P20.1: what has a way back at each size: Eye, its rows in the opposite order, all ones on one side of it; and what hasn't: rows that are 0, or all the same.
func TestPlainOnes(t *testing.T) {
	for n := 1; n <= api.MaxRows; n++ {
		opposite, side := eye(n), eye(n)
		slices.Reverse(opposite.Rows)
		for i := range side.Rows {
			side.Rows[i] = last(i + 1)
		}
		back := eye(n) // takes the sums up to each bit back: each bit and the one below it
		for i := 1; i < n; i++ {
			back.Rows[i] |= 1 << (i - 1)
		}
		for _, p := range [][2]api.Linear{{eye(n), eye(n)}, {opposite, opposite}, {side, back}, {back, side}} {
			if r := inverse(t, p[0]); !same(r, p[1]) {
				t.Errorf("Inverse(%v): %v", p[0], r)
			}
			if r := rank(t, p[0]); r != n {
				t.Errorf("Rank(%v): %d", p[0], r)
			}
			told(t, p[0])
		}
		zeros, ones := matrix(make([]uint64, n)...), matrix(slices.Repeat([]uint64{last(n)}, n)...)
		singular(t, zeros)
		if r := rank(t, zeros); r != 0 {
			t.Errorf("Rank of %d rows 0: %d", n, r)
		}
		if r := rank(t, ones); r != 1 {
			t.Errorf("Rank of %d rows of ones: %d", n, r)
		}
		if n > 1 {
			singular(t, ones)
		}
	}
}
