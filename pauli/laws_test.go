package pauli_test

import (
	"testing"

	"cubit/api"
	"cubit/pauli"
)

// mul is a product that must be.
func mul(t *testing.T, a, b api.Pauli) api.Pauli {
	t.Helper()
	p, e := pauli.Mul(a, b)
	if e != api.OK || pauli.Check(p) != api.OK {
		t.Fatalf("Mul(%+v, %+v): %+v, %d", a, b, p, e)
	}
	return p
}

func eye(t *testing.T, n int) api.Pauli {
	t.Helper()
	p, e := pauli.Eye(n)
	if e != api.OK || p != (api.Pauli{N: n}) {
		t.Fatalf("Eye(%d): %+v, %d", n, p, e)
	}
	return p
}

func weight(t *testing.T, a api.Pauli) int {
	t.Helper()
	n, e := pauli.Weight(a)
	if e != api.OK {
		t.Fatalf("Weight(%+v): %d", a, e)
	}
	return n
}

// samples are strings on n qubits, edges among them.
func samples(s *source, n int) []api.Pauli {
	full := worth(n) - 1
	l := []api.Pauli{{N: n}, {N: n, Phase: 1}, {N: n, X: full}, {N: n, Z: full, Phase: 2}, {N: n, X: full, Z: full, Phase: 3}}
	for range 8 {
		l = append(l, s.pauli(n))
	}
	return l
}

// P7.2: no bracketing, on one qubit for all strings, on each number of qubits for some.
func TestNoBracketing(t *testing.T) {
	l := stringsOn(1)
	for _, a := range l {
		for _, b := range l {
			for _, c := range l {
				noBracketing(t, a, b, c)
			}
		}
	}
	s := source(3)
	for range 30000 {
		n := s.rows()
		noBracketing(t, s.pauli(n), s.pauli(n), s.pauli(n))
	}
}

func noBracketing(t *testing.T, a, b, c api.Pauli) {
	t.Helper()
	left, right := mul(t, mul(t, a, b), c), mul(t, a, mul(t, b, c))
	if left != right {
		t.Fatalf("of %+v, %+v, %+v: %+v and %+v", a, b, c, left, right)
	}
}

// P7.2: Eye changes nothing; a string and what takes it back are Eye, both ways round.
func TestEyeAndAdjoint(t *testing.T) {
	s := source(4)
	for n := range 65 {
		one := eye(t, n)
		for _, a := range samples(&s, n) {
			if l, r := mul(t, one, a), mul(t, a, one); l != a || r != a {
				t.Errorf("%+v with Eye: %+v, %+v", a, l, r)
			}
			back, e := pauli.Adjoint(a)
			if e != api.OK || pauli.Check(back) != api.OK {
				t.Fatalf("Adjoint(%+v): %+v, %d", a, back, e)
			}
			if l, r := mul(t, a, back), mul(t, back, a); l != one || r != one {
				t.Errorf("%+v with its Adjoint: %+v, %+v", a, l, r)
			}
			if again, e := pauli.Adjoint(back); again != a || e != api.OK {
				t.Errorf("Adjoint twice of %+v: %+v, %d", a, again, e)
			}
		}
	}
}

// P7.2: Commute tells whether both products are one; else they differ by the sign alone. Both come, and strings that commute though they don't on single qubits.
func TestCommuteTellsOfProducts(t *testing.T) {
	yeses, noes, yesButNotSingly := 0, 0, 0
	s := source(5)
	for range 30000 {
		n := s.rows()
		a, b := s.pauli(n), s.pauli(n)
		ab, ba := mul(t, a, b), mul(t, b, a)
		yes, e := pauli.Commute(a, b)
		if e != api.OK || yes != (ab == ba) {
			t.Fatalf("Commute(%+v, %+v): %v, %d, of %+v and %+v", a, b, yes, e, ab, ba)
		}
		if again, e := pauli.Commute(b, a); again != yes || e != api.OK {
			t.Fatalf("Commute(%+v, %+v) the other way round: %v, %d", a, b, again, e)
		}
		if yes {
			yeses++
			if a.X&b.Z != b.X&a.Z {
				yesButNotSingly++
			}
			continue
		}
		noes++
		turned := ba
		turned.Phase = (ba.Phase + 2) % 4
		if ab != turned {
			t.Fatalf("of %+v, %+v: %+v and %+v differ otherwise than by 2", a, b, ab, ba)
		}
	}
	if yeses < 1000 || noes < 1000 || yesButNotSingly < 1000 {
		t.Errorf("told too seldom: %d, %d, %d", yeses, noes, yesButNotSingly)
	}
}

// P7.3: the weight of a product is at most the sum of the weights.
func TestWeightOfProducts(t *testing.T) {
	less, same := 0, 0
	s := source(6)
	for range 30000 {
		n := s.rows()
		a, b := s.pauli(n), s.pauli(n)
		sum, got := weight(t, a)+weight(t, b), weight(t, mul(t, a, b))
		if got > sum || got > n || got < 0 {
			t.Fatalf("the product of %+v and %+v has the weight %d, above %d", a, b, got, sum)
		}
		if got < sum {
			less++
		} else {
			same++
		}
	}
	if less < 1000 || same < 300 {
		t.Errorf("told too seldom: %d, %d", less, same)
	}
}

// A string is the product of its single ones, the phase ahead, in any order of the qubits.
func TestMadeOfSingleOnes(t *testing.T) {
	s := source(7)
	for n := range 65 {
		for _, a := range samples(&s, n) {
			up, down := api.Pauli{N: n, Phase: a.Phase}, api.Pauli{N: n, Phase: a.Phase}
			for j := range n {
				up, down = withSingle(t, up, a, j), withSingle(t, down, a, n-1-j)
			}
			if up != a || down != a {
				t.Errorf("%+v of its single ones: %+v, %+v", a, up, down)
			}
		}
	}
}

func withSingle(t *testing.T, p, a api.Pauli, j int) api.Pauli {
	t.Helper()
	kind := kindAt(a, j)
	if kind == 0 {
		return p
	}
	one, e := pauli.One(a.N, j, "IXZY"[kind])
	if e != api.OK {
		t.Fatal(a, j, e)
	}
	return mul(t, p, one)
}
