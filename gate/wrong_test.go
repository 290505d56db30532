package gate_test

import (
	"math"
	"strings"
	"testing"

	"cubit/amp"
	"cubit/api"
	"cubit/gate"
)

// noGate asks that no call knows the name.
func noGate(t *testing.T, name string) {
	t.Helper()
	if gate.Arity(name) != 0 || gate.Halves(name) != 0 || gate.Clifford(name) || gate.Diagonal(name) {
		t.Errorf("%q: %d, %d, %v, %v", name, gate.Arity(name), gate.Halves(name), gate.Clifford(name), gate.Diagonal(name))
	}
	if s, e := gate.Inverse(name); s != "" || e != api.ErrGate {
		t.Errorf("Inverse(%q): %q, %d", name, s, e)
	}
	if m, e := gate.Matrix(name); m != nil || e != api.ErrGate {
		t.Errorf("Matrix(%q): %v, %d", name, m, e)
	}
	for _, y := range []int{0, 1, -1, 8, math.MinInt, math.MaxInt} {
		if r, v, e := gate.Column(name, y); r != nil || v != nil || e != api.ErrGate {
			t.Errorf("Column(%q, %d): %v, %v, %d", name, y, r, v, e)
		}
	}
}

func TestNoGatesNames(t *testing.T) {
	for _, name := range []string{"", " ", "foo", "id", "dg", "xdg", "hdg", "cv", "cw", "ct", "cccx", "ccz ccx", "ccswap", "swapdg", "iswap dg", "cx,cy", "\x00", "\xff", "x\x00", "х", "ß", "measure", strings.Repeat("x", 1<<16), order} {
		noGate(t, name)
	}
}

func TestNamesWithMore(t *testing.T) {
	for _, name := range gate.Names() {
		near := []string{strings.ToUpper(name), strings.ToUpper(name[:1]) + name[1:], name[:len(name)-1] + strings.ToUpper(name[len(name)-1:])}
		for _, more := range []string{" ", "\n", "\x00", "x", "0", "_", "dgdg", "é"} {
			near = append(near, name+more, more+name)
		}
		near = append(near, name[:len(name)-1], name[1:])
		for _, s := range near {
			if !in(s, order) {
				noGate(t, s)
			}
		}
	}
}

func TestAllShortNames(t *testing.T) {
	gates := 0
	ask := func(name string) {
		if !in(name, order) {
			noGate(t, name)
		} else {
			gates++
		}
	}
	for a := range 256 {
		ask(string([]byte{byte(a)}))
	}
	for a := byte('a'); a <= 'z'; a++ {
		for b := byte('a'); b <= 'z'; b++ {
			ask(string([]byte{a, b}))
			for c := byte('a'); c <= 'z'; c++ {
				ask(string([]byte{a, b, c}))
			}
		}
	}
	if gates != 9+5+6 {
		t.Errorf("%d short names are gates'", gates)
	}
}

func TestWrongColumns(t *testing.T) {
	for _, g := range told {
		n := 1 << g.qubits
		for _, y := range []int{-1, -2, -n, -n - 1, n, n + 1, 2 * n, 16, 1 << 30, math.MaxInt32, math.MinInt32, math.MaxInt, math.MinInt} {
			if r, v, e := gate.Column(g.name, y); r != nil || v != nil || e != api.ErrArg {
				t.Errorf("Column(%s, %d): %v, %v, %d", g.name, y, r, v, e)
			}
		}
		for _, y := range []int{0, n - 1} {
			if r, v, e := gate.Column(g.name, y); len(r) == 0 || len(r) != len(v) || e != api.OK {
				t.Errorf("Column(%s, %d): %v, %v, %d", g.name, y, r, v, e)
			}
		}
	}
}

var (
	one    = api.Amp{R: api.Ring{A: 1}}
	nought = api.Amp{}
)

// noMatrices are lists of rows that are no matrix.
func noMatrices() [][][]api.Amp {
	two := []api.Amp{one, one}
	return [][][]api.Amp{
		nil, {}, {nil}, {{}}, {nil, nil}, {{}, {}, {}},
		{two, nil}, {nil, two}, {two, {one}}, {{one}, two}, {two, {}, two}, {two, two, {one, one, one}},
		{{one, one, one}, two, two}, {two, two, two, {one}},
	}
}

// noEntries are what amp.Check refuses, with which error.
func noEntries() map[string]struct {
	a api.Amp
	e api.Errno
} {
	minus := math.Copysign(0, -1)
	type row = struct {
		a api.Amp
		e api.Errno
	}
	return map[string]row{
		"half":           {api.Amp{R: api.Ring{A: 0.5}}, api.ErrWhole},
		"2^53":           {api.Amp{R: api.Ring{B: 1 << 53}}, api.ErrWhole},
		"-2^53 i":        {api.Amp{R: api.Ring{B: complex(0, -(1 << 53))}}, api.ErrWhole},
		"-0":             {api.Amp{R: api.Ring{A: complex(minus, 0)}}, api.ErrWhole},
		"-0 i":           {api.Amp{R: api.Ring{A: 1, B: complex(1, minus)}}, api.ErrWhole},
		"NaN":            {api.Amp{R: api.Ring{A: complex(math.NaN(), 0)}}, api.ErrWhole},
		"infinite":       {api.Amp{R: api.Ring{B: complex(0, math.Inf(-1))}}, api.ErrWhole},
		"NaN, K":         {api.Amp{R: api.Ring{A: complex(0, math.NaN())}, K: -1}, api.ErrWhole},
		"K -1":           {api.Amp{R: api.Ring{A: 1}, K: -1}, api.ErrArg},
		"K 61":           {api.Amp{R: api.Ring{A: 1}, K: 61}, api.ErrArg},
		"K greatest":     {api.Amp{R: api.Ring{A: 1}, K: math.MaxInt}, api.ErrArg},
		"K least":        {api.Amp{R: api.Ring{A: 1}, K: math.MinInt}, api.ErrArg},
		"2 over r":       {api.Amp{R: api.Ring{A: 2}, K: 1}, api.ErrArg},
		"nought over r":  {api.Amp{K: 1}, api.ErrArg},
		"1+i over r^60":  {api.Amp{R: api.Ring{A: 1 + 1i}, K: 60}, api.ErrArg},
		"w + i w over r": {api.Amp{R: api.Ring{B: 1 + 1i}, K: 1}, api.ErrArg},
	}
}

// of is a matrix of ones.
func of(rows, columns int) [][]api.Amp {
	m := make([][]api.Amp, rows)
	for x := range m {
		for range columns {
			m[x] = append(m[x], one)
		}
	}
	return m
}

// refused asks that all three calls refuse a, and Mul from both sides.
func refused(t *testing.T, what string, a [][]api.Amp, want api.Errno) {
	t.Helper()
	if m, e := gate.Adjoint(a); m != nil || e != want {
		t.Errorf("Adjoint, %s: %v, %d", what, m, e)
	}
	if u, e := gate.Unitary(a); u || e != want {
		t.Errorf("Unitary, %s: %v, %d", what, u, e)
	}
	right, left := of(1, 1), of(1, 1)
	if len(a) > 0 {
		left = of(2, len(a))
		if len(a[0]) > 0 {
			right = of(len(a[0]), 2)
		}
	}
	if m, e := gate.Mul(a, right); m != nil || e != want {
		t.Errorf("Mul from the left, %s: %v, %d", what, m, e)
	}
	if m, e := gate.Mul(left, a); m != nil || e != want {
		t.Errorf("Mul from the right, %s: %v, %d", what, m, e)
	}
}

func TestNoMatrices(t *testing.T) {
	for _, a := range noMatrices() {
		refused(t, write(a), a, api.ErrArg)
		if m, e := gate.Mul(a, a); m != nil || e != api.ErrArg {
			t.Errorf("Mul of %q with itself: %v, %d", write(a), m, e)
		}
	}
}

// TestShapesComeFirst has what amp.Check refuses with ErrWhole in what is no matrix, or doesn't fit.
func TestShapesComeFirst(t *testing.T) {
	bad := api.Amp{R: api.Ring{A: 0.5}}
	for _, a := range [][][]api.Amp{{{bad}, nil}, {{bad, bad}, {bad}}, {nil, {bad}}, {{one, bad}, {one, one}, {bad}}} {
		refused(t, write(a), a, api.ErrArg)
	}
	for _, c := range [][2][][]api.Amp{
		{{{bad}}, nil}, {nil, {{bad}}}, {{{bad}}, {{}}}, {{{bad, bad}}, {{bad}}}, {{{bad}}, {{bad}, {bad}}}, {{{bad}}, {{bad}, {}}},
	} {
		if m, e := gate.Mul(c[0], c[1]); m != nil || e != api.ErrArg {
			t.Errorf("Mul of %q and %q: %v, %d", write(c[0]), write(c[1]), m, e)
		}
	}
}

func TestLengthsThatDontFit(t *testing.T) {
	for rows := 1; rows < 5; rows++ {
		for columns := 1; columns < 5; columns++ {
			for high := 1; high < 5; high++ {
				for wide := 1; wide < 5; wide++ {
					m, e := gate.Mul(of(rows, columns), of(high, wide))
					if columns != high {
						if m != nil || e != api.ErrArg {
							t.Errorf("%d by %d and %d by %d: %s, %d", rows, columns, high, wide, write(m), e)
						}
						continue
					}
					if e != api.OK || len(m) != rows || len(m[0]) != wide || m[rows-1][wide-1].R.A != complex(float64(columns), 0) {
						t.Errorf("%d by %d and %d by %d: %s, %d", rows, columns, high, wide, write(m), e)
					}
				}
			}
		}
	}
}

func TestWrongEntries(t *testing.T) {
	for what, bad := range noEntries() {
		if e := amp.Check(bad.a); e != bad.e {
			t.Fatalf("%s: the test awaits %d of amp.Check: %d", what, bad.e, e)
		}
		for _, size := range [][2]int{{1, 1}, {1, 3}, {3, 1}, {2, 2}, {2, 3}} {
			for x := range size[0] {
				for y := range size[1] {
					a := of(size[0], size[1])
					a[x][y] = bad.a
					refused(t, what, a, bad.e)
				}
			}
		}
	}
}

// TestWhichEntryIsTold puts two that are refused unlike into all pairs of places.
func TestWhichEntryIsTold(t *testing.T) {
	whole, arg := api.Amp{R: api.Ring{A: 0.5}}, api.Amp{R: api.Ring{A: 2}, K: 1}
	const rows, columns = 3, 2
	for p := range rows * columns {
		for q := range rows * columns {
			if p == q {
				continue
			}
			a := of(rows, columns)
			a[p/columns][p%columns], a[q/columns][q%columns] = whole, arg
			want := api.ErrWhole
			if q < p {
				want = api.ErrArg
			}
			refused(t, "two that are refused", a, want)
		}
	}
	for p := range rows * columns {
		for q := range columns * rows {
			for _, pair := range [][2]api.Amp{{whole, arg}, {arg, whole}} {
				a, b := of(rows, columns), of(columns, rows)
				a[p/columns][p%columns], b[q/rows][q%rows] = pair[0], pair[1]
				if m, e := gate.Mul(a, b); m != nil || e != amp.Check(pair[0]) {
					t.Errorf("a's at %d, b's at %d: %v, %d", p, q, m, e)
				}
			}
		}
	}
}

// TestEntriesComeAheadOfSteps has entries whose product is refused, ahead of one that amp.Check refuses.
func TestEntriesComeAheadOfSteps(t *testing.T) {
	big := api.Amp{R: api.Ring{A: api.MaxPart}}
	for _, bad := range noEntries() {
		a, b := [][]api.Amp{{big, one}}, [][]api.Amp{{big, big}, {one, bad.a}}
		if m, e := gate.Mul(a, b); m != nil || e != bad.e {
			t.Errorf("%v, %d", m, e)
		}
		c := [][]api.Amp{{big, big}, {big, bad.a}}
		if u, e := gate.Unitary(c); u || e != bad.e {
			t.Errorf("%v, %d", u, e)
		}
		d := [][]api.Amp{{one, one, bad.a}}
		if u, e := gate.Unitary(d); u || e != bad.e {
			t.Errorf("not square: %v, %d", u, e)
		}
	}
}
