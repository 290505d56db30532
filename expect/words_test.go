package expect_test

import (
	exact "math/big"
	"testing"

	"cubit/api"
	"cubit/dense"
	"cubit/expect"
)

// The chapter's words once more, over whole numbers of any length: an element is four numbers, of which number j belongs to w^j, and w^4 is -1. So a + b i + (c + d i) w is a + c w + b w^2 + d w^3. No call of a layer is reckoned with.

type powers [4]int64

func powersOf(r api.Ring) powers {
	return powers{int64(real(r.A)), int64(real(r.B)), int64(imag(r.A)), int64(imag(r.B))}
}

func (p powers) element() api.Ring {
	part := func(j int) float64 { return float64(p[j]) }
	return api.Ring{A: complex(part(0), part(2)), B: complex(part(1), part(3))}
}

// timesI: i is w^2.
func (p powers) timesI() powers { return powers{-p[2], -p[3], p[0], p[1]} }

// acted is each element's place behind the string and what stands there.
func acted(s api.State, p api.Pauli) []powers {
	list := make([]powers, len(s.Amps))
	for x, r := range s.Amps {
		place, count := x, p.Phase
		for j := range s.N {
			hasX, hasZ := p.X>>j&1 == 1, p.Z>>j&1 == 1
			if hasX {
				place ^= 1 << j
			}
			if hasX && hasZ {
				count++
			}
			if hasZ && x>>j&1 == 1 {
				count += 2
			}
		}
		n := powersOf(r)
		for range count {
			n = n.timesI()
		}
		list[place] = n
	}
	return list
}

// A sum is four numbers of any length, that belong to the powers of w over 2 to a power.
type sum [4]*exact.Int

func nought() sum { return sum{new(exact.Int), new(exact.Int), new(exact.Int), new(exact.Int)} }

// add takes the conjugate of r times s into the sum: that of w^j times w^k is w^(k - j).
func (z sum) add(r, s powers) {
	for j, m := range r {
		for k, n := range s {
			term := new(exact.Int).Mul(exact.NewInt(m), exact.NewInt(n))
			at := (k - j + 8) % 8
			if at >= 4 {
				term.Neg(term)
			}
			z[at%4].Add(z[at%4], term)
		}
	}
}

// valued is the sum over all basis states.
func valued(s api.State, p api.Pauli) sum {
	z := nought()
	for x, n := range acted(s, p) {
		z.add(powersOf(s.Amps[x]), n)
	}
	return z
}

// root is the sum over 2^k as a root: it must be real, which leaves w and w^3 in like numbers with unlike signs, w - w^3 being the square root of 2.
func (z sum) root(t *testing.T, k int) (api.Root, api.Errno) {
	t.Helper()
	if z[2].Sign() != 0 || new(exact.Int).Add(z[1], z[3]).Sign() != 0 {
		t.Fatalf("%v isn't real", z)
	}
	p, q := new(exact.Int).Set(z[0]), new(exact.Int).Set(z[1])
	for k > 0 && p.Bit(0) == 0 && q.Bit(0) == 0 {
		p.Rsh(p, 1)
		q.Rsh(q, 1)
		k--
	}
	bound := exact.NewInt(top)
	if p.CmpAbs(bound) > 0 || q.CmpAbs(bound) > 0 || k > power {
		return api.Root{}, api.ErrBig
	}
	return api.Root{P: p.Int64(), Q: q.Int64(), K: k}, api.OK
}

// A tally counts what values came to.
type tally struct{ noughts, others, refused int }

func (c *tally) count(r api.Root, e api.Errno) {
	switch {
	case e != api.OK:
		c.refused++
	case r == api.Root{}:
		c.noughts++
	default:
		c.others++
	}
}

func (c *tally) asMany(t *testing.T, n int) {
	t.Helper()
	if c.noughts < n || c.others < n || c.refused < n {
		t.Errorf("told too few of a kind: %+v", *c)
	}
}

// holdValue asks that Value tells what the words do.
func holdValue(t *testing.T, s api.State, p api.Pauli, c *tally) {
	t.Helper()
	want, wantE := api.Root{}, api.ErrArg
	if p.Phase%2 == 0 {
		want, wantE = valued(s, p).root(t, s.K)
		c.count(want, wantE)
	}
	if r, e := expect.Value(s, p); r != want || e != wantE {
		t.Fatalf("Value of %v in %v: %v, %d, not %v, %d", p, few(s), r, e, want, wantE)
	}
}

// holdAct asks that Act tells what the words do, in a state that is taken.
func holdAct(t *testing.T, s api.State, p api.Pauli) {
	t.Helper()
	want := api.State{N: s.N, K: s.K}
	for _, n := range acted(s, p) {
		want.Amps = append(want.Amps, n.element())
	}
	z, e := expect.Act(s, p)
	if e != api.OK || !same(z, want) {
		t.Fatalf("Act of %v on %v: %v, %d, not %v", p, few(s), few(z), e, few(want))
	}
	if e := dense.Check(z); e != api.OK {
		t.Fatalf("Act of %v on %v: %v, which isn't taken: %d", p, few(s), few(z), e)
	}
}

// states are some of n qubits: basis states, noughts alone, and such with parts of all lengths and with K from 0 to MaxPower.
func states(t *testing.T, s *source, n int) []api.State {
	t.Helper()
	list := []api.State{basis(n, 0), basis(n, 1<<n-1), basis(n, 1<<n/2), null(n)}
	for _, length := range []int{1, 3, 25, 26, 27, 40, 53, 54} {
		for _, k := range []int{0, 1, 2, 30, power - 1, power} {
			list = append(list, s.state(n, length, k))
		}
	}
	for _, a := range list {
		if e := dense.Check(a); e != api.OK {
			t.Fatalf("%v: %d", few(a), e)
		}
	}
	return list
}

// P21.1: Value and Act of all strings on up to three qubits, with all Phases.
func TestAllStrings(t *testing.T) {
	s := source(11)
	var c tally
	for n := range 4 {
		for _, a := range states(t, &s, n) {
			for _, p := range strings(n, 0, 1, 2, 3) {
				holdValue(t, a, p, &c)
				holdAct(t, a, p)
			}
		}
	}
	c.asMany(t, 500)
}

// P21.1: many on more qubits.
func TestManyStrings(t *testing.T) {
	s := source(12)
	var c tally
	for n := 4; n <= most; n++ {
		for _, a := range states(t, &s, n) {
			for range 1 + 64>>n {
				holdValue(t, a, s.string(n, 0, 2), &c)
				holdAct(t, a, s.string(n, 0, 1, 2, 3))
			}
			holdValue(t, a, api.Pauli{N: n, Phase: 2}, &c)
		}
	}
	c.asMany(t, 20)
}

// P21.1: each X, Y and Z on each qubit of ten, the highest among them, and each basis state.
func TestEachQubit(t *testing.T) {
	s := source(13)
	a := s.state(most, 20, 5)
	var c tally
	for j := range most {
		for kind := 1; kind < 4; kind++ {
			p := api.Pauli{N: most, X: uint64(kind&1) << j, Z: uint64(kind>>1) << j, Phase: pick(&s, 0, 2)}
			holdValue(t, a, p, &c)
			holdAct(t, a, p)
		}
	}
	for x := range 1 << most {
		p := s.string(most, 0, 1, 2, 3)
		holdAct(t, basis(most, x), p)
	}
}

// mirrored is a state in which each two of the basis states that differ in the bits of X have one element, turned by a power of i: the values of many strings are nought in it, however great its parts are.
func (s *source) mirrored(n int) api.State {
	a := s.state(n, pick(s, 53, 54), 0)
	mask := 1 + s.below(1<<n-1)
	turns := s.below(4)
	for x, r := range a.Amps {
		if y := x ^ mask; x < y {
			p := powersOf(r)
			for range turns {
				p = p.timesI()
			}
			a.Amps[y] = p.element()
		}
	}
	return a
}

// P21.1: parts near the greatest ones, of whose products nothing is left.
func TestGreatPartsThatMeet(t *testing.T) {
	s := source(14)
	var c tally
	for n := 1; n <= 4; n++ {
		for range 20 {
			a := s.mirrored(n)
			for _, p := range strings(n, 0, 2) {
				holdValue(t, a, p, &c)
			}
		}
	}
	if c.noughts < 1000 || c.refused < 1000 {
		t.Errorf("told too few of a kind: %+v", c)
	}
}

// A plan is a sum of strings with their factors.
type plan struct {
	ps      []api.Pauli
	factors []int64
}

// plan has at least so many strings on n qubits, of which some stand there twice with factors that take one another back but for a little.
func (s *source) plan(n, many int) plan {
	var z plan
	for len(z.ps) < many {
		p, f := s.string(n, 0, 2), s.part(pick(s, 2, 10, 62))
		z.ps, z.factors = append(z.ps, p), append(z.factors, f)
		if s.below(2) == 0 {
			p.Phase = 2 - p.Phase
			z.ps, z.factors = append(z.ps, p), append(z.factors, f+pick[int64](s, 0, 0, 1, -2))
		}
	}
	return z
}

// holdSum asks that Sum tells what the words do.
func holdSum(t *testing.T, a api.State, l plan, c *tally) {
	t.Helper()
	all := nought()
	for j, p := range l.ps {
		for k, n := range valued(a, p) {
			all[k].Add(all[k], n.Mul(n, exact.NewInt(l.factors[j])))
		}
	}
	want, wantE := all.root(t, a.K)
	c.count(want, wantE)
	if r, e := expect.Sum(a, l.ps, l.factors); r != want || e != wantE {
		t.Fatalf("Sum of %v times %v in %v: %v, %d, not %v, %d", l.ps, l.factors, few(a), r, e, want, wantE)
	}
}

// P21.1: Sum of all sorts of strings and factors.
func TestManySums(t *testing.T) {
	s := source(15)
	var c tally
	for n := range 5 {
		for range 5 {
			for _, a := range states(t, &s, n) {
				holdSum(t, a, s.plan(n, s.below(7)), &c)
			}
		}
	}
	c.asMany(t, 100)
}

// P21.1: on ten qubits.
func TestSumsOnTenQubits(t *testing.T) {
	s := source(16)
	var c tally
	for _, length := range []int{1, 12, 30, 54} {
		for _, k := range []int{0, 7, power} {
			holdSum(t, s.state(most, length, k), s.plan(most, 4), &c)
		}
	}
}

// P21.1: sums of products of many bits, unlike ones, of which 2 n^2 is left: c^2 (m^2 - n^2) + 1, m^2 + n^2 times, less c^2 (m^2 + n^2) + 1, m^2 - n^2 times.
func TestUnlikeProductsThatMeet(t *testing.T) {
	s := source(18)
	var told tally
	for range 300 {
		c, m, n := s.part(22), int64(1<<30+s.below(1<<30)), s.part(26)
		a := numbers(pick(&s, 0, 1, power), c*m, c*n, 1, 0)
		l := plan{[]api.Pauli{{N: 2, Z: 1}, {N: 2}}, []int64{m*m + n*n, n*n - m*m}}
		holdSum(t, a, l, &told)
		if r, e := expect.Sum(a, l.ps, l.factors); e != api.OK || a.K == 0 && r != (api.Root{P: 2 * n * n}) {
			t.Fatalf("Sum of %v in %v: %v, %d", l, a, r, e)
		}
	}
}

// letters are the matrices of I, X, Z and Y, entry by entry: which power of i, or none (-1).
var letters = [4][2][2]int{{{0, -1}, {-1, 0}}, {{-1, 0}, {0, -1}}, {{0, -1}, {-1, 2}}, {{-1, 3}, {1, -1}}}

// P21.1: what the chapter's words say of a string is the product with its matrix, as chapter 7 has it.
func TestActIsTheMatrix(t *testing.T) {
	s := source(17)
	for n := range 4 {
		a := s.state(n, 30, 3)
		for _, p := range strings(n, 0, 1, 2, 3) {
			z, e := expect.Act(a, p)
			if e != api.OK {
				t.Fatal(p, e)
			}
			for y := range a.Amps {
				if want := rowTimes(a, p, y).element(); z.Amps[y] != want {
					t.Fatalf("Act of %v: %v at %d, not %v", p, z.Amps[y], y, want)
				}
			}
		}
	}
}

// rowTimes is row y of the string's matrix times the state.
func rowTimes(a api.State, p api.Pauli, y int) powers {
	var all powers
	for x, r := range a.Amps {
		count, ok := entry(p, a.N, y, x)
		n := powersOf(r)
		for range count {
			n = n.timesI()
		}
		for k := range all {
			if ok {
				all[k] += n[k]
			}
		}
	}
	return all
}

// entry is the power of i in row y and column x of the string's matrix; false, if a nought stands there.
func entry(p api.Pauli, n, y, x int) (int, bool) {
	count := p.Phase
	for j := range n {
		one := letters[p.X>>j&1|p.Z>>j&1<<1][y>>j&1][x>>j&1]
		if one < 0 {
			return 0, false
		}
		count += one
	}
	return count, true
}
