package code_test

import (
	"math/bits"
	"testing"

	"cubit/api"
	"cubit/code"
	"cubit/pauli"
)

// mul is the product of two strings that must be.
func mul(t *testing.T, a, b api.Pauli) api.Pauli {
	t.Helper()
	p, e := pauli.Mul(a, b)
	if e != api.OK {
		t.Fatalf("Mul(%v, %v): %d", a, b, e)
	}
	return p
}

// weigh is the weight of a string that must be right.
func weigh(t *testing.T, p api.Pauli) int {
	t.Helper()
	n, e := pauli.Weight(p)
	if e != api.OK {
		t.Fatalf("Weight(%v): %d", p, e)
	}
	return n
}

// syndromeOf is what Syndrome tells, which must be.
func syndromeOf(t *testing.T, c api.Code, p api.Pauli) uint64 {
	t.Helper()
	r, e := code.Syndrome(c, p)
	if e != api.OK || len(c.Gens) < 64 && r>>len(c.Gens) != 0 {
		t.Fatalf("Syndrome(%v, %v): %d, %d", c, p, r, e)
	}
	return r
}

// logicalOf is what Logical tells, which must be.
func logicalOf(t *testing.T, c api.Code, p api.Pauli) api.Pauli {
	t.Helper()
	r, e := code.Logical(c, p)
	if e != api.OK || r.N != len(c.X) || r.Phase != 0 || pauli.Check(r) != api.OK {
		t.Fatalf("Logical(%v, %v): %v, %d", c, p, r, e)
	}
	return r
}

// doesNothing asks that a string breaks no generator and does nothing.
func doesNothing(t *testing.T, c api.Code, p api.Pauli) {
	t.Helper()
	hasSyndrome(t, c, p, 0)
	hasLogical(t, c, p, api.Pauli{N: len(c.X)})
}

// followsProducts asks that Syndrome and Logical go with products.
func followsProducts(t *testing.T, c api.Code, p, q api.Pauli) (unbroken bool) {
	t.Helper()
	a, b := syndromeOf(t, c, p), syndromeOf(t, c, q)
	pq := mul(t, p, q)
	if ab := syndromeOf(t, c, pq); ab != a^b {
		t.Fatalf("%v: of %v and %v: %d and %d, but %d of both", c, p, q, a, b, ab)
	}
	if a != 0 || b != 0 {
		return false
	}
	want := mul(t, logicalOf(t, c, p), logicalOf(t, c, q))
	want.Phase = 0
	if got := logicalOf(t, c, pq); got != want {
		t.Fatalf("%v: %v and %v do %v, not %v", c, p, q, got, want)
	}
	return true
}

// P23.2: Syndrome of a product is the exclusive or of both, Logical of one is the product of both but for the Phase: all pairs of strings on up to two qubits, with codes of each kind.
func TestProductsOnFewQubits(t *testing.T) {
	s := source(41)
	unbroken := 0
	for _, size := range sizes(2) {
		n, gens := size[0], size[1]
		for range 4 {
			c := s.code(n, gens)
			for _, p := range strings(n, 0, 1, 2, 3) {
				for _, q := range strings(n, s.below(4)) {
					if followsProducts(t, c, p, q) {
						unbroken++
					}
				}
			}
		}
	}
	if unbroken < 1000 {
		t.Errorf("%d break none", unbroken)
	}
}

// P23.2: likewise many strings on any number of qubits.
func TestProductsOnManyQubits(t *testing.T) {
	s := source(42)
	broken, unbroken := 0, 0
	for range 200 {
		n := s.qubits()
		c := s.code(n, s.below(n+1))
		for range 6 {
			p, q := s.unbroken(c), s.unbroken(c)
			if s.below(3) == 0 {
				p = s.string(n, 0, 1, 2, 3)
				q = mul(t, q, s.string(n, 0, 1, 2, 3))
			}
			if followsProducts(t, c, p, q) {
				unbroken++
			} else {
				broken++
			}
		}
	}
	if broken < 200 || unbroken < 200 {
		t.Errorf("%d break some, %d none", broken, unbroken)
	}
}

// P23.2: a product of generators has Syndrome 0 and does nothing: all products of up to eight, many of more.
func TestProductsOfGenerators(t *testing.T) {
	s := source(43)
	for range 60 {
		n := s.qubits()
		c := s.code(n, 1+s.below(n))
		g := len(c.Gens)
		for some := range uint64(1) << min(g, 4+n%5) {
			if g > 8 {
				some = s.number(g)
			}
			p := api.Pauli{N: n, Phase: s.below(4)}
			for i, q := range c.Gens {
				if some>>i&1 == 1 {
					p = mul(t, p, q)
				}
			}
			doesNothing(t, c, p)
		}
	}
}

// corrects asks of every string whose weight, doubled, is below the distance, that what is decoded takes it back. It tells how many there are.
func corrects(t *testing.T, c api.Code) int {
	t.Helper()
	distance, e := code.Distance(c)
	if e != api.OK {
		t.Fatalf("Distance(%v): %d", c, e)
	}
	tried := 0
	for _, p := range strings(c.N, 0) {
		if 2*weigh(t, p) >= distance {
			continue
		}
		p.Phase = tried % 4
		r, e := code.Decode(c, syndromeOf(t, c, p))
		if e != api.OK {
			t.Fatalf("Decode(%v): %d", c, e)
		}
		doesNothing(t, c, mul(t, r, p))
		tried++
	}
	return tried
}

// P23.3, P6: the named codes, and others with the distance 3, take back each string on one qubit.
func TestCorrects(t *testing.T) {
	for name, want := range map[string]int{"bit3": 1, "phase3": 1, "five": 1 + 15, "steane": 1 + 21} {
		if got := corrects(t, named(t, name)); got != want {
			t.Errorf("%s: %d strings, not %d", name, got, want)
		}
	}
	if got := corrects(t, three()); got != 1+24 {
		t.Errorf("the code of three logical qubits: %d strings", got)
	}
	s := source(44)
	for range 40 {
		c := s.mixed(s.turnedByQubits(pick(&s, named(t, "five"), named(t, "steane"), three())))
		if got := corrects(t, c); got != 1+3*c.N {
			t.Errorf("%v: %d strings, not %d", c, got, 1+3*c.N)
		}
	}
}

// P23.3, P6: likewise codes as they come: those without logical qubits have the distance 0, and so no such string; those of small distances have one.
func TestCorrectsAny(t *testing.T) {
	s := source(45)
	var tried [3]int
	for range 150 {
		n := 1 + s.below(search)
		c := s.code(n, pick(&s, n-1, s.below(n+1)))
		switch got := corrects(t, c); {
		case got == 0 && len(c.X) == 0:
			tried[0]++
		case got == 1:
			tried[1]++
		case got == 1+3*n:
			tried[2]++
		default:
			t.Errorf("%v: %d strings", c, got)
		}
	}
	if tried[0] < 5 || tried[1] < 50 {
		t.Errorf("%v", tried)
	}
}

// P23.4: what is decoded has the string's syndrome and no greater weight.
func TestDecodeIsNoHeavier(t *testing.T) {
	s := source(46)
	lighter, equal := 0, 0
	for _, size := range sizes(search) {
		n := size[0]
		c, all := s.code(n, size[1]), strings(min(n, 4), 0)
		for _, p := range all {
			if n > 4 {
				p = s.string(n, 0, 1, 2, 3)
			}
			syndrome := syndromeOf(t, c, p)
			r, e := code.Decode(c, syndrome)
			if e != api.OK || r.Phase != 0 || syndromeOf(t, c, r) != syndrome || weigh(t, r) > weigh(t, p) {
				t.Fatalf("%v: %v is decoded as %v, %d", c, p, r, e)
			}
			if weigh(t, r) < weigh(t, p) {
				lighter++
			} else {
				equal++
			}
		}
	}
	if lighter < 1000 || equal < 200 {
		t.Errorf("%d lighter, %d equal", lighter, equal)
	}
}

// P23.5: the named codes are right, and have these distances.
func TestNamedAreRight(t *testing.T) {
	for name, want := range map[string]int{"bit3": 1, "phase3": 1, "five": 3, "steane": 3} {
		c := named(t, name)
		if !isRight(c) {
			t.Errorf("%s: %v", name, c)
		}
		hasDistance(t, c, want)
	}
}

// A code's distance is that of the code with its generators in another order, and of the one with other strings that do the same; so is what is decoded, but for the order of the number's bits.
func TestOrderOfGenerators(t *testing.T) {
	s := source(47)
	for range 40 {
		n := 1 + s.below(6)
		c := s.code(n, s.below(n+1))
		other, order := copied(c), s.order(len(c.Gens))
		for i, place := range order {
			other.Gens[place] = c.Gens[i]
		}
		want, _ := code.Distance(c)
		hasDistance(t, other, want)
		hasDistance(t, s.mixed(c), want)
		for syndrome := range uint64(1) << len(c.Gens) {
			var turned uint64
			for i, place := range order {
				turned |= syndrome >> i & 1 << place
			}
			if bits.OnesCount64(turned) != bits.OnesCount64(syndrome) {
				t.Fatal("the bits are exchanged wrongly")
			}
			p, _ := code.Decode(c, syndrome)
			decodes(t, other, turned, p)
		}
	}
}
