package gate_test

import (
	"slices"
	"strings"
	"testing"

	"cubit/amp"
	"cubit/api"
	"cubit/gate"
)

// eye is 1 on the diagonal and nought elsewhere.
func eye(n int) [][]api.Amp {
	m := make([][]api.Amp, n)
	for x := range m {
		m[x] = make([]api.Amp, n)
		m[x][x] = one
	}
	return m
}

// product is that of the gates' matrices as they stand in the text.
func product(t *testing.T, names string) [][]api.Amp {
	t.Helper()
	l := strings.Fields(names)
	m := eye(1 << gate.Arity(l[0]))
	for _, name := range l {
		var e api.Errno
		if m, e = gate.Mul(m, matrix(t, name)); e != api.OK {
			t.Fatalf("%s: %d", names, e)
		}
	}
	return m
}

// P8.2
func TestAllTakeBack(t *testing.T) {
	for _, name := range gate.Names() {
		m := matrix(t, name)
		if u, e := gate.Unitary(m); !u || e != api.OK {
			t.Errorf("Unitary of %s: %v, %d", name, u, e)
		}
		back, e := gate.Inverse(name)
		if e != api.OK {
			t.Errorf("Inverse(%s): %d", name, e)
			continue
		}
		for _, names := range []string{name + " " + back, back + " " + name} {
			if got := write(product(t, names)); got != write(eye(len(m))) {
				t.Errorf("%s: %s", names, got)
			}
		}
		if a, e := gate.Adjoint(m); e != api.OK || write(a) != write(matrix(t, back)) {
			t.Errorf("Adjoint of %s: %s, %d", name, write(a), e)
		}
		if again, e := gate.Inverse(back); again != name || e != api.OK {
			t.Errorf("%s is taken back by %s, that by %s", name, back, again)
		}
		if gate.Arity(name) != gate.Arity(back) || gate.Halves(name) != gate.Halves(back) || gate.Clifford(name) != gate.Clifford(back) || gate.Diagonal(name) != gate.Diagonal(back) {
			t.Errorf("%s and %s are unlike", name, back)
		}
	}
}

// P8.3
func TestOneFormOfEntries(t *testing.T) {
	var plain, halved []api.Amp
	for k := range 8 {
		p, _ := amp.Turn(one, k)
		h, _ := amp.Turn(api.Amp{R: api.Ring{A: 1}, K: 1}, k)
		plain, halved = append(plain, p), append(halved, h)
	}
	for _, name := range gate.Names() {
		halves, most := false, 0
		for y := range 1 << gate.Arity(name) {
			_, values, e := gate.Column(name, y)
			most = max(most, len(values))
			if e != api.OK || len(values) == 0 {
				t.Errorf("Column(%s, %d): %v, %d", name, y, values, e)
			}
			for _, v := range values {
				halves = halves || slices.Contains(halved, v)
				if amp.Check(v) != api.OK || !slices.Contains(plain, v) && !slices.Contains(halved, v) {
					t.Errorf("Column(%s, %d): %v", name, y, values)
				}
			}
		}
		if halves != (gate.Halves(name) == 1) || most != 1+gate.Halves(name) {
			t.Errorf("%s: halves %v, %d in a column", name, halves, most)
		}
	}
}

// TestKindsByMatrices asks the matrices what Diagonal and Clifford tell: a gate is one of Clifford's just where it leads each Pauli string to one, whatever the power of w ahead.
func TestKindsByMatrices(t *testing.T) {
	for _, name := range gate.Names() {
		m := matrix(t, name)
		diagonal := true
		for x := range m {
			for y := range m {
				diagonal = diagonal && (x == y || m[x][y] == nought)
			}
		}
		if diagonal != gate.Diagonal(name) {
			t.Errorf("Diagonal(%s): %v", name, !diagonal)
		}
		if clifford := leadsPaulis(t, m); clifford != gate.Clifford(name) {
			t.Errorf("Clifford(%s): %v", name, !clifford)
		}
	}
}

// leadsPaulis tells whether m P and m's adjoint is a Pauli string with a sign, for each string P of one X or Z.
func leadsPaulis(t *testing.T, m [][]api.Amp) bool {
	t.Helper()
	back, e := gate.Adjoint(m)
	if e != api.OK {
		t.Fatal(e)
	}
	strings := paulis(len(m))
	for bit := 1; bit < len(m); bit <<= 1 {
		for _, p := range [][][]api.Amp{string1(len(m), bit, 0), string1(len(m), 0, bit)} {
			q, e := gate.Mul(m, p)
			if e != api.OK {
				t.Fatal(e)
			}
			if q, e = gate.Mul(q, back); e != api.OK {
				t.Fatal(e)
			}
			if !slices.Contains(strings, write(q)) {
				return false
			}
		}
	}
	return true
}

// string1 is the matrix of the string with these X and then these Z, without a phase: y goes to y ^ x, its sign by y & z.
func string1(n, x, z int) [][]api.Amp {
	m := make([][]api.Amp, n)
	for y := range m {
		m[y] = make([]api.Amp, n)
	}
	for y := range m {
		sign := 1.0
		for b := y & z; b > 0; b &= b - 1 {
			sign = -sign
		}
		m[y^x][y] = api.Amp{R: api.Ring{A: complex(sign, 0)}}
	}
	return m
}

// paulis are all strings with each power of i ahead, as texts.
func paulis(n int) []string {
	var l []string
	for x := range n {
		for z := range n {
			for k := range 4 {
				m := string1(n, x, z)
				for i := range m {
					for j := range m[i] {
						m[i][j], _ = amp.Turn(m[i][j], 2*k)
					}
				}
				l = append(l, write(m))
			}
		}
	}
	return l
}

// way is a way to a matrix by several calls; refused: one of them was.
type way struct{ refused bool }

func (w *way) keep(m [][]api.Amp, e api.Errno) [][]api.Amp {
	if e != api.OK {
		w.refused = true
		return eye(1)
	}
	return m
}

func (w *way) mul(a, b [][]api.Amp) [][]api.Amp {
	if w.refused {
		return eye(1)
	}
	return w.keep(gate.Mul(a, b))
}

func (w *way) adjoint(a [][]api.Amp) [][]api.Amp { return w.keep(gate.Adjoint(a)) }

// laws counts for each law how often it could be told.
type laws struct {
	t    *testing.T
	told map[string]int
}

// hold asks for the same on both ways, where no call refused.
func (l *laws) hold(name string, left, right func(w *way) [][]api.Amp) {
	l.t.Helper()
	w := &way{}
	p, q := left(w), right(w)
	l.told[name] += 0
	if w.refused {
		return
	}
	l.told[name]++
	if write(p) != write(q) {
		l.t.Errorf("%s: %s and %s", name, write(p), write(q))
	}
}

// P8.4
func (l *laws) ask(a, b, c [][]api.Amp) {
	l.t.Helper()
	l.hold("bracketing", func(w *way) [][]api.Amp { return w.mul(w.mul(a, b), c) }, func(w *way) [][]api.Amp { return w.mul(a, w.mul(b, c)) })
	l.hold("the adjoint of a product", func(w *way) [][]api.Amp { return w.adjoint(w.mul(a, b)) }, func(w *way) [][]api.Amp { return w.mul(w.adjoint(b), w.adjoint(a)) })
	l.hold("adjoint twice", func(w *way) [][]api.Amp { return w.adjoint(w.adjoint(a)) }, func(*way) [][]api.Amp { return a })
	l.hold("one from the left", func(w *way) [][]api.Amp { return w.mul(eye(len(a)), a) }, func(*way) [][]api.Amp { return a })
	l.hold("one from the right", func(w *way) [][]api.Amp { return w.mul(a, eye(len(a[0]))) }, func(*way) [][]api.Amp { return a })
}

func (l *laws) often(least int) {
	l.t.Helper()
	for name, n := range l.told {
		if n < least {
			l.t.Errorf("%s was told %d times", name, n)
		}
	}
}

func TestLawsOfMatrices(t *testing.T) {
	l := &laws{t, map[string]int{}}
	s := source(4)
	for range 2000 {
		n := [4]int{1 + s.next(4), 1 + s.next(4), 1 + s.next(4), 1 + s.next(4)}
		most, powers := 1<<s.next(18), s.next(21)
		l.ask(s.matrix(n[0], n[1], most, powers), s.matrix(n[1], n[2], most, powers), s.matrix(n[2], n[3], most, powers))
	}
	l.often(400)
}

func TestLawsOfGates(t *testing.T) {
	l := &laws{t, map[string]int{}}
	s := source(5)
	for n := 1; n <= 3; n++ {
		var all [][][]api.Amp
		for _, g := range told {
			if g.qubits == n {
				all = append(all, matrix(t, g.name))
			}
		}
		for range 300 {
			l.ask(all[s.next(len(all))], all[s.next(len(all))], all[s.next(len(all))])
		}
	}
	l.often(900)
}

// TestUnitaryIsKept asks that products of gates are unitary, and not unitary any more with one entry put for another.
func TestUnitaryIsKept(t *testing.T) {
	s := source(6)
	for n := 1; n <= 3; n++ {
		var names []string
		for _, g := range told {
			if g.qubits == n {
				names = append(names, g.name)
			}
		}
		for range 100 {
			m := product(t, names[s.next(len(names))]+" "+names[s.next(len(names))]+" "+names[s.next(len(names))]+" "+names[s.next(len(names))])
			if u, e := gate.Unitary(m); !u || e != api.OK {
				t.Errorf("Unitary(%s): %v, %d", write(m), u, e)
			}
			x, y := s.next(len(m)), s.next(len(m))
			m[x][y], _ = amp.Add(m[x][y], api.Amp{R: api.Ring{A: 3}})
			if u, e := gate.Unitary(m); u || e != api.OK {
				t.Errorf("Unitary(%s): %v, %d", write(m), u, e)
			}
		}
	}
}

// P8.5, and DOC.md's fourth example
func TestWhichMakeWhich(t *testing.T) {
	for names, want := range map[string]string{
		"s s": "z", "t t": "s", "v v": "x", "h x h": "z", "h z h": "x", "s x sdg": "y", "w w w w w w w w": "i",
		"t t t t t t t t": "i", "sdg sdg": "z", "tdg tdg": "sdg", "vdg vdg": "x", "h h": "i", "h s h": "v", "h sdg h": "vdg",
		"cs cs": "cz", "csdg csdg": "cz", "swap cz swap": "cz", "cx swap cx swap cx": "swap", "ch cz ch": "cx", "ch cx ch": "cz", "cs cx csdg": "cy",
		"iswap iswap iswap": "iswapdg", "ccx ccx": "ccz ccz", "cswap cswap": "ccx ccx",
	} {
		if got, w := write(product(t, names)), write(product(t, want)); got != w {
			t.Errorf("%s: %s; %s: %s", names, got, want, w)
		}
	}
	if write(product(t, "w w w w")) == write(matrix(t, "i")) {
		t.Error("w four times is i")
	}
}
