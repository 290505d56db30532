package gate_test

import (
	"math/big"
	"testing"

	"cubit/amp"
	"cubit/api"
	"cubit/gate"
)

// source is a row of numbers that is the same at each run.
type source uint64

func (s *source) next(n int) int {
	*s = *s*6364136223846793005 + 1442695040888963407
	return int(uint64(*s) >> 33 % uint64(n))
}

// part is whole and from -most to most.
func (s *source) part(most int) float64 { return float64(s.next(2*most+1) - most) }

// amp is an amplitude in its one form, nought among them.
func (s *source) amp(most, powers int) api.Amp {
	if s.next(5) == 0 {
		return nought
	}
	a, _ := amp.Make(api.Ring{A: complex(s.part(most), s.part(most)), B: complex(s.part(most), s.part(most))}, s.next(powers+1))
	return a
}

func (s *source) matrix(rows, columns, most, powers int) [][]api.Amp {
	m := make([][]api.Amp, rows)
	for x := range m {
		for range columns {
			m[x] = append(m[x], s.amp(most, powers))
		}
	}
	return m
}

// byWords is Mul by the chapter's words, of what its checks take.
func byWords(a, b [][]api.Amp) ([][]api.Amp, api.Errno) {
	var m [][]api.Amp
	for x := range a {
		var row []api.Amp
		for y := range b[0] {
			var s api.Amp
			for k := range b {
				p, e := amp.Mul(a[x][k], b[k][y])
				if e != api.OK {
					return nil, e
				}
				if s, e = amp.Add(s, p); e != api.OK {
					return nil, e
				}
			}
			row = append(row, s)
		}
		m = append(m, row)
	}
	return m, api.OK
}

// An exact number is the sum of four whole numbers times 1, w, w^2 and w^3, over the square root of 2 to the power 120, which all that comes up here fits.
type exact [4]*big.Int

const over = 120

// timesRoot is v times the square root of 2, which is w - w^3.
func timesRoot(v exact) exact {
	// w^4 is -1: 1 goes to w - w^3, w to w^2 + 1, w^2 to w^3 + w, w^3 to w^2 - 1.
	sum := func(a, b *big.Int) *big.Int { return new(big.Int).Add(a, b) }
	less := func(a, b *big.Int) *big.Int { return new(big.Int).Sub(a, b) }
	return exact{less(v[1], v[3]), sum(v[0], v[2]), sum(v[1], v[3]), less(v[2], v[0])}
}

// exactOf is the amplitude, its root's power brought up to most.
func exactOf(a api.Amp, most int) exact {
	whole := func(f float64) *big.Int { return big.NewInt(int64(f)) }
	v := exact{whole(real(a.R.A)), whole(real(a.R.B)), whole(imag(a.R.A)), whole(imag(a.R.B))}
	for range most - a.K {
		v = timesRoot(v)
	}
	return v
}

// exactSum is the sum of the row's products with the column, over the root to the power over.
func exactSum(row []api.Amp, b [][]api.Amp, y int) exact {
	sum := exact{new(big.Int), new(big.Int), new(big.Int), new(big.Int)}
	for k := range row {
		p, q := exactOf(row[k], over/2), exactOf(b[k][y], over/2)
		for i := range 4 {
			for j := range 4 {
				d := new(big.Int).Mul(p[i], q[j])
				if i+j >= 4 {
					d.Neg(d)
				}
				sum[(i+j)%4].Add(sum[(i+j)%4], d)
			}
		}
	}
	return sum
}

func sameExact(p, q exact) bool {
	for j := range p {
		if p[j].Cmp(q[j]) != 0 {
			return false
		}
	}
	return true
}

// checkMul asks for the answer by the chapter's words, and for the exact sums in it.
func checkMul(t *testing.T, a, b [][]api.Amp) api.Errno {
	t.Helper()
	want, we := byWords(a, b)
	m, e := gate.Mul(a, b)
	if e != we || write(m) != write(want) || (e != api.OK) != (m == nil) {
		t.Fatalf("Mul(%s, %s): %s, %d; by words %s, %d", write(a), write(b), write(m), e, write(want), we)
	}
	for x := range m {
		for y, v := range m[x] {
			if ae := amp.Check(v); ae != api.OK || !sameExact(exactOf(v, over), exactSum(a[x], b, y)) {
				t.Fatalf("Mul(%s, %s): %s is wrong at %d, %d", write(a), write(b), write(m), x, y)
			}
		}
	}
	return e
}

func TestMulIsExact(t *testing.T) {
	s := source(1)
	count := map[api.Errno]int{}
	for range 4000 {
		rows, middle, columns := 1+s.next(4), 1+s.next(4), 1+s.next(4)
		most, powers := 1<<s.next(28), s.next(41)
		count[checkMul(t, s.matrix(rows, middle, most, powers), s.matrix(middle, columns, most, powers))]++
	}
	if count[api.OK] < 500 || count[api.ErrBig] < 500 || len(count) != 2 {
		t.Errorf("too few of one kind: %v", count)
	}
}

func TestMulOfGates(t *testing.T) {
	for _, a := range told {
		for _, b := range told {
			if a.qubits != b.qubits {
				continue
			}
			if e := checkMul(t, matrix(t, a.name), matrix(t, b.name)); e != api.OK {
				t.Errorf("%s %s: %d", a.name, b.name, e)
			}
		}
	}
}

func TestMulOfMany(t *testing.T) {
	s := source(2)
	for _, size := range [][3]int{{1, 300, 1}, {300, 1, 1}, {1, 1, 300}, {17, 30, 9}, {32, 32, 32}} {
		a, b := s.matrix(size[0], size[1], 3, 2), s.matrix(size[1], size[2], 3, 2)
		if e := checkMul(t, a, b); e != api.OK {
			t.Errorf("%v: %d", size, e)
		}
	}
}

func TestMulOfMatrices(t *testing.T) {
	for _, c := range []struct {
		a, b, want string
	}{
		{"2,0", "3,0", "6,0"},
		{"1,0 i,0", "0,1; 0,1", "0,1+i"},
		{"0,1; i,0", "1,0 0,1", "0,1 i,0; i,0 0,i"},
		{"1,0 2,0; 3,0 4,0", "5,0 6,0; 7,0 8,0", "19,0 22,0; 43,0 50,0"},
		{"1,0/1 1,0/1", "1,0/1; 1,0/1", "1,0"},
		{"1,0/1 1,0/1", "1,0/1; -1,0/1", "0,0"},
		{"1,0/60", "1,0", "1,0/60"},
		{"1,0/30", "1,0/30", "1,0/60"},
		{"0,1-i", "1,0/60", "1,0/59"},
		{"1,0/60 1,0/60", "1,0; 1,0", "1,0/58"},
		{"9007199254740991,0", "-i,0", "-9007199254740991i,0"},
		{"9007199254740991,0 -1,0 1,0", "1,0; 1,0; 1,0", "9007199254740991,0"},
		{"94906265,0", "94906265,0", "9007199136250225,0"},
		{"0,0", "9007199254740991,0", "0,0"},
	} {
		m, e := gate.Mul(readMatrix(t, c.a), readMatrix(t, c.b))
		if write(m) != c.want || e != api.OK {
			t.Errorf("Mul(%s, %s): %s, %d", c.a, c.b, write(m), e)
		}
	}
}

// TestMulRefusesSteps has products and sums that leave the bound on the way, the last ones in an entry behind others.
func TestMulRefusesSteps(t *testing.T) {
	for _, c := range []struct {
		a, b string
	}{
		{"94906266,0", "94906266,0"},
		{"9007199254740991,0", "2,0"},
		{"1,0/31", "1,0/30"},
		{"1,0/60", "1,0/60"},
		{"1,0/60", "1,0/1"},
		{"9007199254740991,0 1,0", "1,0; 1,0"},
		{"9007199254740991,0 1,0 -1,0", "1,0; 1,0; 1,0"},
		{"-9007199254740991,0 -1,0 1,0", "1,0; 1,0; 1,0"},
		{"9007199254740991,0 1,0/2", "1,0; 1,0"},
		{"1,0/2 9007199254740991,0", "1,0; 1,0"},
		{"94906266,0 0,0", "94906266,0; 0,0"},
		{"0,0 94906266,0", "0,0; 94906266,0"},
		{"1,0; 2,0", "1,0 9007199254740991,0"},
		{"1,0 0,0; 0,0 3,0", "1,0 0,0; 0,0 9007199254740991,0"},
	} {
		m, e := gate.Mul(readMatrix(t, c.a), readMatrix(t, c.b))
		if m != nil || e != api.ErrBig {
			t.Errorf("Mul(%s, %s): %s, %d", c.a, c.b, write(m), e)
		}
	}
}

func TestAdjointOfMatrices(t *testing.T) {
	for _, c := range []struct {
		a, want string
	}{
		{"1,0", "1,0"},
		{"i,0", "-i,0"},
		{"0,1", "0,-i"},
		{"1,0 i,0 0,1", "1,0; -i,0; 0,-i"},
		{"1,0; i,0; 0,1/1", "1,0 -i,0 0,-i/1"},
		{"1,0 2,0; 3+i,0 0,4; 0,0 0,i/60", "1,0 3-i,0 0,0; 2,0 0,-4i 0,-1/60"},
		{"9007199254740991-9007199254740991i,9007199254740991", "9007199254740991+9007199254740991i,-9007199254740991i"},
		{"1,0/60", "1,0/60"},
		{"0,0 0,0; 0,0 0,0", "0,0 0,0; 0,0 0,0"},
	} {
		m, e := gate.Adjoint(readMatrix(t, c.a))
		if write(m) != c.want || e != api.OK {
			t.Errorf("Adjoint(%s): %s, %d", c.a, write(m), e)
		}
	}
}

func TestAdjointEntryByEntry(t *testing.T) {
	s := source(3)
	for range 1000 {
		a := s.matrix(1+s.next(5), 1+s.next(5), 1<<s.next(30), s.next(61))
		m, e := gate.Adjoint(a)
		if e != api.OK || len(m) != len(a[0]) {
			t.Fatalf("Adjoint(%s): %s, %d", write(a), write(m), e)
		}
		for x := range m {
			if len(m[x]) != len(a) {
				t.Fatalf("Adjoint(%s): %s", write(a), write(m))
			}
			for y := range m[x] {
				if c, ce := amp.Conj(a[y][x]); ce != api.OK || amp.Check(m[x][y]) != api.OK || m[x][y] != c {
					t.Fatalf("Adjoint(%s): %s", write(a), write(m))
				}
			}
		}
	}
}

func TestUnitaryOfMatrices(t *testing.T) {
	for _, c := range []struct {
		a    string
		want bool
		e    api.Errno
	}{
		{"1,0", true, api.OK},
		{"-1,0", true, api.OK},
		{"0,-i", true, api.OK},
		{"0,0", false, api.OK},
		{"2,0", false, api.OK},
		{"1,0/1", false, api.OK},
		{"1+i,0", false, api.OK},
		{"1,0 0,0", false, api.OK},
		{"1,0; 0,0", false, api.OK},
		{"1,0 0,0; 0,0 1,0; 0,0 0,0", false, api.OK},
		{"1,0 0,0 0,0; 0,0 1,0 0,0", false, api.OK},
		{"1,0 0,0; 0,0 1,0", true, api.OK},
		{"1,0 0,0; 0,0 0,0", false, api.OK},
		{"0,0 0,0; 0,0 1,0", false, api.OK},
		{"1,0 0,0; 1,0 0,0", false, api.OK},
		{"1,0 0,0; 0,0 2,0", false, api.OK},
		{"1,0 1,0; 0,0 1,0", false, api.OK},
		{"1,0 0,0; 1,0 1,0", false, api.OK},
		{"0,1 0,0; 0,0 -i,0", true, api.OK},
		{"1,0/1 1,0/1; 1,0/1 -1,0/1", true, api.OK},
		{"1,0/1 1,0/1; 1,0/1 1,0/1", false, api.OK},
		{"1,0/1 1,0/1; -1,0/1 1,0/1", true, api.OK},
		{"0,0 0,1 0,0; 0,0 0,0 1,0; -i,0 0,0 0,0", true, api.OK},
		{"0,0 0,1 0,0; 0,0 0,0 1,0; 0,0 -i,0 0,0", false, api.OK},
		{"1,0/2 1,0/2 1,0/2 1,0/2; 1,0/2 -1,0/2 1,0/2 -1,0/2; 1,0/2 1,0/2 -1,0/2 -1,0/2; 1,0/2 -1,0/2 -1,0/2 1,0/2", true, api.OK},
		{"1,0/2 1,0/2 1,0/2 1,0/2; 1,0/2 -1,0/2 1,0/2 -1,0/2; 1,0/2 1,0/2 -1,0/2 -1,0/2; 1,0/2 1,0/2 -1,0/2 -1,0/2", false, api.OK},
		{"94906266,0", false, api.ErrBig},
		{"1,0/31", false, api.ErrBig},
		{"1,0/30", false, api.OK},
		{"1,0 0,0; 0,0 94906266,0", false, api.ErrBig},
		{"2,0 0,0; 0,0 94906266,0", false, api.ErrBig},
		{"94906266,0 1,0", false, api.OK},
		{"1,0/60; 94906266,0", false, api.OK},
	} {
		if got, e := gate.Unitary(readMatrix(t, c.a)); got != c.want || e != c.e {
			t.Errorf("Unitary(%s): %v, %d", c.a, got, e)
		}
	}
}
