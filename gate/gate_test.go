package gate_test

import (
	"slices"
	"strings"
	"testing"

	"cubit/amp"
	"cubit/api"
	"cubit/gate"
)

// The faces' shapes are promised.
var (
	_ func() []string                                 = gate.Names
	_ func(string) int                                = gate.Arity
	_ func(string) int                                = gate.Halves
	_ func(string) bool                               = gate.Clifford
	_ func(string) bool                               = gate.Diagonal
	_ func(string) (string, api.Errno)                = gate.Inverse
	_ func(string) ([][]api.Amp, api.Errno)           = gate.Matrix
	_ func(string, int) ([]int, []api.Amp, api.Errno) = gate.Column
	_ func(a, b [][]api.Amp) ([][]api.Amp, api.Errno) = gate.Mul
	_ func([][]api.Amp) ([][]api.Amp, api.Errno)      = gate.Adjoint
	_ func([][]api.Amp) (bool, api.Errno)             = gate.Unitary
)

// order is how the names stand in the chapter.
const order = "i x y z h s sdg t tdg v vdg w wdg cx cy cz ch cs csdg swap iswap iswapdg ccx ccz cswap"

// Which gates the chapter lists for what.
const (
	halving    = "h v vdg ch"
	noClifford = "t tdg ch cs csdg ccx ccz cswap"
	diagonal   = "i z s sdg t tdg w wdg cz cs csdg ccz"
	pairs      = "s sdg t tdg v vdg w wdg cs csdg iswap iswapdg"
)

// told is the chapter's table: column > row : entry, as amp.Text writes it. of ccx and the like each column that isn't told leads to itself.
var told = []struct {
	name   string
	qubits int
	moves  string
}{
	{"i", 1, "0>0:1,0 1>1:1,0"},
	{"x", 1, "0>1:1,0 1>0:1,0"},
	{"y", 1, "0>1:i,0 1>0:-i,0"},
	{"z", 1, "0>0:1,0 1>1:-1,0"},
	{"h", 1, "0>0:1,0/1 0>1:1,0/1 1>0:1,0/1 1>1:-1,0/1"},
	{"s", 1, "0>0:1,0 1>1:i,0"},
	{"sdg", 1, "0>0:1,0 1>1:-i,0"},
	{"t", 1, "0>0:1,0 1>1:0,1"},
	{"tdg", 1, "0>0:1,0 1>1:0,-i"},
	{"v", 1, "0>0:0,1/1 0>1:0,-i/1 1>0:0,-i/1 1>1:0,1/1"},
	{"vdg", 1, "0>0:0,-i/1 0>1:0,1/1 1>0:0,1/1 1>1:0,-i/1"},
	{"w", 1, "0>0:0,1 1>1:0,1"},
	{"wdg", 1, "0>0:0,-i 1>1:0,-i"},
	{"cx", 2, "0>0:1,0 2>2:1,0 1>3:1,0 3>1:1,0"},
	{"cy", 2, "0>0:1,0 2>2:1,0 1>3:i,0 3>1:-i,0"},
	{"cz", 2, "0>0:1,0 1>1:1,0 2>2:1,0 3>3:-1,0"},
	{"ch", 2, "0>0:1,0 2>2:1,0 1>1:1,0/1 1>3:1,0/1 3>1:1,0/1 3>3:-1,0/1"},
	{"cs", 2, "0>0:1,0 1>1:1,0 2>2:1,0 3>3:i,0"},
	{"csdg", 2, "0>0:1,0 1>1:1,0 2>2:1,0 3>3:-i,0"},
	{"swap", 2, "0>0:1,0 3>3:1,0 1>2:1,0 2>1:1,0"},
	{"iswap", 2, "0>0:1,0 3>3:1,0 1>2:i,0 2>1:i,0"},
	{"iswapdg", 2, "0>0:1,0 3>3:1,0 1>2:-i,0 2>1:-i,0"},
	{"ccx", 3, "0>0:1,0 1>1:1,0 2>2:1,0 3>7:1,0 4>4:1,0 5>5:1,0 6>6:1,0 7>3:1,0"},
	{"ccz", 3, "0>0:1,0 1>1:1,0 2>2:1,0 3>3:1,0 4>4:1,0 5>5:1,0 6>6:1,0 7>7:-1,0"},
	{"cswap", 3, "0>0:1,0 1>1:1,0 2>2:1,0 3>5:1,0 4>4:1,0 5>3:1,0 6>6:1,0 7>7:1,0"},
}

// in tells whether the name is one of the list's.
func in(name, list string) bool { return slices.Contains(strings.Fields(list), name) }

// other is the name that stands beside this one in pairs, or the name itself.
func other(name string) string {
	l := strings.Fields(pairs)
	if j := slices.Index(l, name); j >= 0 {
		return l[j^1]
	}
	return name
}

// read is an amplitude from its text.
func read(t *testing.T, s string) api.Amp {
	t.Helper()
	a, e := amp.Parse(s)
	if e != api.OK {
		t.Fatalf("%q: %d", s, e)
	}
	return a
}

// readMatrix is a matrix from a text: rows apart by semicolons, entries by spaces.
func readMatrix(t *testing.T, s string) [][]api.Amp {
	t.Helper()
	var m [][]api.Amp
	for _, line := range strings.Split(s, ";") {
		var row []api.Amp
		for _, f := range strings.Fields(line) {
			row = append(row, read(t, f))
		}
		m = append(m, row)
	}
	return m
}

// write is a matrix as readMatrix reads it, for messages and to compare bit by bit: amp.Text refuses a nought with a sign.
func write(m [][]api.Amp) string {
	var lines []string
	for _, row := range m {
		var l []string
		for _, a := range row {
			s, e := amp.Text(a)
			if e != api.OK {
				s = e.Error()
			}
			l = append(l, s)
		}
		lines = append(lines, strings.Join(l, " "))
	}
	return strings.Join(lines, "; ")
}

// toldMatrix is the matrix that the chapter's table tells.
func toldMatrix(t *testing.T, qubits int, moves string) [][]api.Amp {
	t.Helper()
	m := make([][]api.Amp, 1<<qubits)
	for x := range m {
		m[x] = make([]api.Amp, 1<<qubits)
	}
	for _, f := range strings.Fields(moves) {
		m[f[2]-'0'][f[0]-'0'] = read(t, f[4:])
	}
	return m
}

// matrix is a gate's, which there must be.
func matrix(t *testing.T, name string) [][]api.Amp {
	t.Helper()
	m, e := gate.Matrix(name)
	if e != api.OK {
		t.Fatalf("Matrix(%s): %d", name, e)
	}
	return m
}

func TestNames(t *testing.T) {
	if got := strings.Join(gate.Names(), " "); got != order {
		t.Errorf("Names: %s", got)
	}
}

func TestTableIsWhole(t *testing.T) {
	var l []string
	for _, g := range told {
		l = append(l, g.name)
	}
	if got := strings.Join(l, " "); got != order {
		t.Fatalf("the test's table has %s", got)
	}
}

func TestAsked(t *testing.T) {
	for _, g := range told {
		if n := gate.Arity(g.name); n != g.qubits {
			t.Errorf("Arity(%s): %d", g.name, n)
		}
		halves := 0
		if in(g.name, halving) {
			halves = 1
		}
		if n := gate.Halves(g.name); n != halves {
			t.Errorf("Halves(%s): %d", g.name, n)
		}
		if got := gate.Clifford(g.name); got == in(g.name, noClifford) {
			t.Errorf("Clifford(%s): %v", g.name, got)
		}
		if got := gate.Diagonal(g.name); got != in(g.name, diagonal) {
			t.Errorf("Diagonal(%s): %v", g.name, got)
		}
		if s, e := gate.Inverse(g.name); s != other(g.name) || e != api.OK {
			t.Errorf("Inverse(%s): %q, %d", g.name, s, e)
		}
	}
}

func TestMatrixIsTheTable(t *testing.T) {
	for _, g := range told {
		want := write(toldMatrix(t, g.qubits, g.moves))
		if got := write(matrix(t, g.name)); got != want {
			t.Errorf("Matrix(%s): %s; the table has %s", g.name, got, want)
		}
	}
}

func TestColumnIsTheTable(t *testing.T) {
	for _, g := range told {
		m := toldMatrix(t, g.qubits, g.moves)
		for y := range m {
			var rows []int
			var values []api.Amp
			for x := range m {
				if m[x][y] != (api.Amp{}) {
					rows, values = append(rows, x), append(values, m[x][y])
				}
			}
			r, v, e := gate.Column(g.name, y)
			if e != api.OK || !slices.Equal(r, rows) || write([][]api.Amp{v}) != write([][]api.Amp{values}) {
				t.Errorf("Column(%s, %d): %v, %s, %d", g.name, y, r, write([][]api.Amp{v}), e)
			}
		}
	}
}

func TestExamples(t *testing.T) {
	if a, b, c, d := gate.Arity("ccx"), gate.Arity("foo"), gate.Halves("ch"), gate.Halves("cx"); a != 3 || b != 0 || c != 1 || d != 0 {
		t.Error(a, b, c, d)
	}
	for _, c := range []struct {
		name, want string
		e          api.Errno
	}{{"v", "vdg", api.OK}, {"cswap", "cswap", api.OK}, {"X", "", api.ErrGate}} {
		if s, e := gate.Inverse(c.name); s != c.want || e != c.e {
			t.Errorf("Inverse(%s): %q, %d", c.name, s, e)
		}
	}
	for _, c := range []struct {
		name string
		y    int
		rows []int
		want string
		e    api.Errno
	}{
		{"cx", 1, []int{3}, "1,0", api.OK},
		{"ch", 3, []int{1, 3}, "1,0/1 -1,0/1", api.OK},
		{"v", 0, []int{0, 1}, "0,1/1 0,-i/1", api.OK},
		{"x", 2, nil, "", api.ErrArg},
	} {
		r, v, e := gate.Column(c.name, c.y)
		if !slices.Equal(r, c.rows) || write([][]api.Amp{v}) != c.want || e != c.e {
			t.Errorf("Column(%s, %d): %v, %s, %d", c.name, c.y, r, write([][]api.Amp{v}), e)
		}
	}
	for s, want := range map[string]bool{"1,0 0,0": false, "1,0": true} {
		if got, e := gate.Unitary(readMatrix(t, s)); got != want || e != api.OK {
			t.Errorf("Unitary(%s): %v, %d", s, got, e)
		}
	}
}
