package tableau_test

import (
	"slices"
	"testing"

	"cubit/api"
	"cubit/gate"
	"cubit/pauli"
)

// turnedBy asks that each row is turned by the chapter's words, and tells what came of it.
func turnedBy(t *testing.T, a api.Tableau, name string, qubits []int) api.Tableau {
	t.Helper()
	b := apply(t, a, name, qubits...)
	if b.N != a.N || len(b.Rows) != len(a.Rows) {
		t.Fatalf("%s on %v: N %d, %d rows", name, qubits, b.N, len(b.Rows))
	}
	for j, row := range a.Rows {
		if want := turn(wordOf(row), name, qubits); b.Rows[j] != want.pauli() {
			t.Fatalf("%s on %v of %v: %v, not %v", name, qubits, wordOf(row), wordOf(b.Rows[j]), want)
		}
	}
	return b
}

// P18.1: the chapter's table: X and Z are the rows of Zero; Y is the product i X Z of what they become.
func TestTable(t *testing.T) {
	for name, want := range map[string][3]string{
		"i": {"X", "Z", "Y"}, "w": {"X", "Z", "Y"}, "wdg": {"X", "Z", "Y"},
		"x": {"X", "-Z", "-Y"}, "y": {"-X", "-Z", "Y"}, "z": {"-X", "Z", "-Y"},
		"h": {"Z", "X", "-Y"}, "s": {"Y", "Z", "-X"}, "sdg": {"-Y", "Z", "X"},
		"v": {"X", "-Y", "Z"}, "vdg": {"X", "Y", "-Z"},
	} {
		isRows(t, apply(t, zero(t, 1), name, 0), want[0], want[1])
		isRows(t, apply(t, rowsOf(t, 1, "Y", "Z"), name, 0), want[2], want[1])
		isRows(t, apply(t, rowsOf(t, 1, "-X", "-Y"), name, 0), minus(want[0]), minus(want[2]))
	}
	for name, want := range map[string][4]string{ // X of a, X of b, Z of a, Z of b, with a written last
		"cx": {"XX", "XI", "IZ", "ZZ"}, "cz": {"ZX", "XZ", "IZ", "ZI"}, "cy": {"YX", "XZ", "IZ", "ZZ"},
		"swap": {"XI", "IX", "ZI", "IZ"}, "iswap": {"YZ", "ZY", "ZI", "IZ"}, "iswapdg": {"-YZ", "-ZY", "ZI", "IZ"},
	} {
		isRows(t, apply(t, zero(t, 2), name, 0, 1), want[:]...)
		other := apply(t, zero(t, 2), name, 1, 0)
		isRows(t, other, exchanged(want[1]), exchanged(want[0]), exchanged(want[3]), exchanged(want[2]))
	}
}

// minus is the text with the other sign.
func minus(s string) string {
	if s[0] == '-' {
		return s[1:]
	}
	return "-" + s
}

// exchanged is the text with its two letters exchanged.
func exchanged(s string) string {
	k := len(s) - 2
	return s[:k] + s[k+1:] + s[k:k+1]
}

// P18.1: every gate of Clifford's on all its qubits, in all tableaus of up to two qubits.
func TestEachGateOnAllTableaus(t *testing.T) {
	type key struct {
		w      word
		name   string
		qubits [2]int
	}
	known := map[key]api.Pauli{}
	for n := range 3 {
		for k, rows := range allRows(n) {
			for step := range 4 {
				a := tableauOf(n, signed(rows, k*5+step*11))
				for _, name := range clifford(n) {
					for _, qubits := range tuples(n, gate.Arity(name)) {
						b := apply(t, a, name, qubits...)
						for j, row := range a.Rows {
							at := key{w: wordOf(row), name: name}
							copy(at.qubits[:], qubits)
							want, ok := known[at]
							if !ok {
								want = turn(at.w, name, qubits).pauli()
								known[at] = want
							}
							if b.Rows[j] != want {
								t.Fatalf("%s on %v of %v: %v, not %v", name, qubits, at.w, wordOf(b.Rows[j]), wordOf(want))
							}
						}
					}
				}
			}
		}
	}
}

// P18.1: every gate on all its qubits in greater tableaus; whatever the other qubits have stays.
func TestEachGateOnEachOrder(t *testing.T) {
	s := source(21)
	for _, name := range clifford(2) {
		for n := 3; n <= 5; n++ {
			for _, qubits := range tuples(n, gate.Arity(name)) {
				for range 4 {
					turnedBy(t, s.anyTableau(n), name, qubits)
				}
			}
		}
	}
}

// P18.1: so at 64 qubits, the highest among them.
func TestEachGateOn64Qubits(t *testing.T) {
	s := source(22)
	a := s.anyTableau(64)
	for _, name := range clifford(2) {
		for _, qubits := range [][]int{{63, 0}, {0, 63}, {62, 63}, {31, 32}, s.qubits(64, 2)} {
			turnedBy(t, a, name, qubits[:gate.Arity(name)])
		}
	}
	for q := range 64 {
		turnedBy(t, zero(t, 64), "s", []int{q})
		turnedBy(t, zero(t, 64), "cx", []int{q, (q + 1) % 64})
	}
}

// matrixOf is the matrix of a word by the letters' matrices: qubit 0 is the lowest bit of rows and columns.
func matrixOf(w word) [][]api.Amp {
	size := 1 << len(w.letters)
	m := make([][]api.Amp, size)
	for x := range m {
		m[x] = make([]api.Amp, size)
		value := []complex128{1, 1i, -1, -1i}[w.power]
		y := x
		for q, letter := range w.letters {
			bit := x >> q & 1
			switch letter {
			case 'X':
				y ^= 1 << q
			case 'Y':
				y ^= 1 << q
				value *= []complex128{-1i, 1i}[bit]
			case 'Z':
				value *= []complex128{1, -1}[bit]
			}
		}
		m[x][y] = api.Amp{R: api.Ring{A: complex(real(value)+0, imag(value)+0)}}
	}
	return m
}

// laid is the gate's matrix on these qubits of n.
func laid(t *testing.T, name string, qubits []int, n int) [][]api.Amp {
	t.Helper()
	small, e := gate.Matrix(name)
	if e != api.OK {
		t.Fatal(name, e)
	}
	mask := 0
	for _, q := range qubits {
		mask |= 1 << q
	}
	at := func(x int) int {
		k := 0
		for j, q := range qubits {
			k |= x >> q & 1 << j
		}
		return k
	}
	m := make([][]api.Amp, 1<<n)
	for x := range m {
		m[x] = make([]api.Amp, 1<<n)
		for y := range m {
			if x&^mask == y&^mask {
				m[x][y] = small[at(x)][at(y)]
			}
		}
	}
	return m
}

// between is u p u'.
func between(t *testing.T, u, p [][]api.Amp) [][]api.Amp {
	t.Helper()
	back, e := gate.Adjoint(u)
	up, f := gate.Mul(u, p)
	all, g := gate.Mul(up, back)
	if e != api.OK || f != api.OK || g != api.OK {
		t.Fatal(e, f, g)
	}
	return all
}

func sameMatrix(a, b [][]api.Amp) bool { return slices.EqualFunc(a, b, slices.Equal[[]api.Amp]) }

// P18.1: what each gate of Clifford's makes of every string on up to three qubits is u p u', by the gates' own matrices.
func TestMatrices(t *testing.T) {
	s := source(23)
	for n := 1; n <= 3; n++ {
		for _, name := range clifford(n) {
			for _, qubits := range tuples(n, gate.Arity(name)) {
				u := laid(t, name, qubits, n)
				for _, w := range words(n)[1:] { // I alone is in no tableau
					w.power = s.sign()
					row := apply(t, s.with(w), name, qubits...).Rows[n]
					if e := pauli.Check(row); e != api.OK || row.N != n {
						t.Fatalf("%s on %v of %v: %v", name, qubits, w, row)
					}
					if !sameMatrix(matrixOf(wordOf(row)), between(t, u, matrixOf(w))) {
						t.Fatalf("%s on %v makes %v of %v", name, qubits, wordOf(row), w)
					}
				}
			}
		}
	}
}

// P18.1: X, Y and Z on each qubit, with both signs, by each gate, are u p u' too.
func TestMatricesOfOneLetter(t *testing.T) {
	s := source(24)
	for n := 1; n <= 3; n++ {
		for _, name := range clifford(n) {
			for _, qubits := range tuples(n, gate.Arity(name)) {
				u := laid(t, name, qubits, n)
				for q := range n {
					for _, letter := range []byte("XYZ") {
						for sign := 0; sign < 4; sign += 2 {
							w := one(n, q, letter).turned(sign)
							row := apply(t, s.with(w), name, qubits...).Rows[n]
							if !sameMatrix(matrixOf(wordOf(row)), between(t, u, matrixOf(w))) {
								t.Fatalf("%s on %v makes %v of %v", name, qubits, wordOf(row), w)
							}
						}
					}
				}
			}
		}
	}
}

// P18.1: a list of gates, one behind the other.
func TestListsOfGates(t *testing.T) {
	s := source(25)
	for j := range 150 {
		n := 1 + j%8
		a := s.anyTableau(n)
		for range 30 {
			name, qubits := s.gate(n)
			a = turnedBy(t, a, name, qubits)
		}
	}
}
