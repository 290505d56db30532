package pauli_test

import (
	"testing"

	"cubit/api"
	"cubit/pauli"
)

// A matrix is reckoned with by its entries, which are sums of few powers of i: exact.
type matrix [][]complex128

// The four of the chapter, by their kinds: 1 for X, 2 for Z, both for Y.
var four = [4]matrix{
	{{1, 0}, {0, 1}},
	{{0, 1}, {1, 0}},
	{{1, 0}, {0, -1}},
	{{0, -1i}, {1i, 0}},
}

var powers = [4]complex128{1, 1i, -1, -1i}

func (m matrix) times(o matrix) matrix {
	r := make(matrix, len(m))
	for x := range r {
		r[x] = make([]complex128, len(m))
		for y := range r[x] {
			for z := range m {
				r[x][y] += m[x][z] * o[z][y]
			}
		}
	}
	return r
}

// over is the matrix of m on the higher qubits and o on the lower ones.
func (m matrix) over(o matrix) matrix {
	r := make(matrix, len(m)*len(o))
	for x := range r {
		r[x] = make([]complex128, len(r))
		for y := range r[x] {
			r[x][y] = m[x/len(o)][y/len(o)] * o[x%len(o)][y%len(o)]
		}
	}
	return r
}

func (m matrix) by(c complex128) matrix { return m.times(diagonal(len(m), c)) }

func diagonal(n int, c complex128) matrix {
	r := make(matrix, n)
	for x := range r {
		r[x] = make([]complex128, n)
		r[x][x] = c
	}
	return r
}

// back is the conjugate of m with rows and columns exchanged.
func (m matrix) back() matrix {
	r := make(matrix, len(m))
	for x := range r {
		r[x] = make([]complex128, len(m))
		for y := range r[x] {
			r[x][y] = complex(real(m[y][x]), -imag(m[y][x]))
		}
	}
	return r
}

func (m matrix) is(o matrix) bool {
	if len(m) != len(o) {
		return false
	}
	for x := range m {
		for y := range m[x] {
			if m[x][y] != o[x][y] {
				return false
			}
		}
	}
	return true
}

// kindAt is 0 to 3 for I, X, Z, Y on a qubit.
func kindAt(p api.Pauli, j int) int { return int(p.X/worth(j)%2 + p.Z/worth(j)%2*2) }

// matrixOf is what p means.
func matrixOf(p api.Pauli) matrix {
	m := diagonal(1, powers[p.Phase])
	for j := p.N - 1; j >= 0; j-- {
		m = m.over(four[kindAt(p, j)])
	}
	return m
}

// stringsOn are all strings on n qubits, with all phases.
func stringsOn(n int) []api.Pauli {
	var l []api.Pauli
	for x := range worth(n) {
		for z := range worth(n) {
			for phase := range 4 {
				l = append(l, api.Pauli{N: n, X: x, Z: z, Phase: phase})
			}
		}
	}
	return l
}

// The words of the chapter about the four hold of the tests' matrices.
func TestMatricesAreTheFour(t *testing.T) {
	i, x, z, y := four[0], four[1], four[2], four[3]
	for n, c := range [][2]matrix{
		{x.times(y), z.by(1i)}, {y.times(z), x.by(1i)}, {z.times(x), y.by(1i)},
		{y.times(x), z.by(-1i)}, {z.times(y), x.by(-1i)}, {x.times(z), y.by(-1i)},
		{x.times(x), i}, {y.times(y), i}, {z.times(z), i}, {i.times(i), i},
	} {
		if !c[0].is(c[1]) {
			t.Errorf("line %d: %v is not %v", n, c[0], c[1])
		}
	}
}

// Products, commuting and what takes back, against the matrices: all strings with all phases on up to two qubits, both ways round, and many on three and four.
func TestByMatrices(t *testing.T) {
	for n := range 3 {
		l := stringsOn(n)
		for _, a := range l {
			for _, b := range l {
				againstMatrices(t, a, b)
			}
		}
	}
	s := source(1)
	for range 3000 {
		n := 3 + s.below(2)
		againstMatrices(t, s.pauli(n), s.pauli(n))
	}
}

func againstMatrices(t *testing.T, a, b api.Pauli) {
	t.Helper()
	ma, mb := matrixOf(a), matrixOf(b)
	ab, ba := ma.times(mb), mb.times(ma)
	got, e := pauli.Mul(a, b)
	if e != api.OK || pauli.Check(got) != api.OK || got.N != a.N || !matrixOf(got).is(ab) {
		t.Fatalf("Mul(%+v, %+v): %+v, %d, which is not the product of the matrices", a, b, got, e)
	}
	if yes, e := pauli.Commute(a, b); yes != ab.is(ba) || e != api.OK {
		t.Fatalf("Commute(%+v, %+v): %v, %d", a, b, yes, e)
	}
	if got, e := pauli.Adjoint(a); e != api.OK || pauli.Check(got) != api.OK || got.N != a.N || !matrixOf(got).is(ma.back()) {
		t.Fatalf("Adjoint(%+v): %+v, %d", a, got, e)
	}
}

// single is the product of two of the four by their matrices: its kind and its power of i.
func single(t *testing.T, a, b int) (kind, power int) {
	m := four[a].times(four[b])
	for kind := range four {
		for power := range powers {
			if m.is(four[kind].by(powers[power])) {
				return kind, power
			}
		}
	}
	t.Fatal("no product", a, b)
	return 0, 0
}

// Strings of any length qubit by qubit: their products, whether they commute, and their weights.
func TestQubitByQubit(t *testing.T) {
	var kinds, turns [4][4]int
	for a := range 4 {
		for b := range 4 {
			kinds[a][b], turns[a][b] = single(t, a, b)
		}
	}
	s := source(2)
	for range 40000 {
		n := s.rows()
		a, b := s.pauli(n), s.pauli(n)
		want, unlike, weight := api.Pauli{N: n, Phase: a.Phase + b.Phase}, 0, 0
		for j := range n {
			ka, kb := kindAt(a, j), kindAt(b, j)
			k := kinds[ka][kb]
			want.X += worth(j) * uint64(k%2)
			want.Z += worth(j) * uint64(k/2)
			want.Phase += turns[ka][kb]
			if turns[ka][kb] != turns[kb][ka] {
				unlike++
			}
			if ka != 0 {
				weight++
			}
		}
		want.Phase %= 4
		if got := is(pauli.Mul(a, b)); got != (answer{want, api.OK}) {
			t.Fatalf("Mul(%+v, %+v): %+v, not %+v", a, b, got, want)
		}
		if yes, e := pauli.Commute(a, b); yes != (unlike%2 == 0) || e != api.OK {
			t.Fatalf("Commute(%+v, %+v): %v, %d, though they differ on %d qubits", a, b, yes, e, unlike)
		}
		if got, e := pauli.Weight(a); got != weight || e != api.OK {
			t.Fatalf("Weight(%+v): %d, %d, not %d", a, got, e, weight)
		}
	}
}

// A source of numbers: the same ones each time.
type source uint64

func (s *source) next() uint64 {
	*s = *s*6364136223846793005 + 1442695040888963407
	x := uint64(*s)
	x ^= x >> 31
	x *= 0x9e3779b97f4a7c15
	return x ^ x>>29
}

func (s *source) below(n int) int { return int(s.next() >> 33 % uint64(n)) }

// rows is a number of qubits, now and then one at an edge.
func (s *source) rows() int {
	switch s.below(6) {
	case 0:
		return 64
	case 1:
		return 62 + s.below(3)
	case 2:
		return s.below(4)
	}
	return s.below(65)
}

// part has bits below n, of few ones now and then.
func (s *source) part(n int) uint64 {
	x := s.next()
	switch s.below(5) {
	case 0:
		x &= s.next() & s.next()
	case 1:
		x |= s.next() | s.next()
	}
	return x & (worth(n) - 1)
}

// pauli is a string on n qubits; X and Z are now and then the same.
func (s *source) pauli(n int) api.Pauli {
	p := api.Pauli{N: n, X: s.part(n), Z: s.part(n), Phase: s.below(4)}
	switch s.below(8) {
	case 0:
		p.Z = p.X
	case 1:
		p.Z = 0
	case 2:
		p.X = 0
	}
	return p
}
