package linear_test

import (
	"testing"

	"cubit/api"
	"cubit/linear"
)

// P20.2: Mul doesn't hang on bracketing.
func TestBrackets(t *testing.T) {
	s := source(21)
	for n := range api.MaxRows + 1 {
		for range 10 {
			a, b, c := s.some(n), s.some(n), s.some(n)
			if left, right := mul(t, mul(t, a, b), c), mul(t, a, mul(t, b, c)); !same(left, right) {
				t.Fatalf("%v, %v, %v: %v and %v", a, b, c, left, right)
			}
		}
	}
}

// P20.2: Eye changes nothing on either side, nor any number.
func TestEyeChangesNothing(t *testing.T) {
	s := source(22)
	for n := range api.MaxRows + 1 {
		one, e := linear.Eye(n)
		if e != api.OK {
			t.Fatalf("Eye(%d): %d", n, e)
		}
		for range 10 {
			m := s.some(n)
			if left, right := mul(t, one, m), mul(t, m, one); !same(left, m) || !same(right, m) {
				t.Errorf("%v: %v and %v", m, left, right)
			}
		}
		for _, x := range s.numbers(n) {
			if y := apply(t, one, x); y != x {
				t.Errorf("Eye(%d) leads %d to %d", n, x, y)
			}
		}
	}
}

// wayBack asks that Inverse answers OK just where Rank is N, and that Mul of it and m on either side is Eye then. It tells whether.
func wayBack(t *testing.T, m api.Linear) bool {
	t.Helper()
	back, e := linear.Inverse(m)
	if rank(t, m) < m.N {
		singular(t, m)
		return false
	}
	if e != api.OK || !same(mul(t, m, back), eye(m.N)) || !same(mul(t, back, m), eye(m.N)) {
		t.Fatalf("Inverse(%v): %v, %d", m, back, e)
	}
	if again := inverse(t, back); !same(again, m) {
		t.Fatalf("Inverse of Inverse(%v): %v", m, again)
	}
	return true
}

// P20.2: Inverse and Rank, for every matrix of up to three rows and many of all sizes.
func TestWaysBack(t *testing.T) {
	for n := range 4 {
		allOf(n, func(m api.Linear) { wayBack(t, m) })
	}
	s := source(23)
	there, not := 0, 0
	for n := 1; n <= api.MaxRows; n++ {
		for range 20 {
			if wayBack(t, s.some(n)) {
				there++
			} else {
				not++
			}
		}
	}
	if there < 300 || not < 300 {
		t.Errorf("%d have a way back, %d not", there, not)
	}
}

// P20.2: what takes a product back is the product of what takes both back, the last one first.
func TestInverseOfProducts(t *testing.T) {
	s := source(24)
	for n := range api.MaxRows + 1 {
		a, b := s.ranked(n, n), s.ranked(n, n)
		if left, right := inverse(t, mul(t, a, b)), mul(t, inverse(t, b), inverse(t, a)); !same(left, right) {
			t.Fatalf("%v, %v: %v and %v", a, b, left, right)
		}
	}
}

// P20.3: Apply of a product is Apply behind Apply; Apply of a sum is the sum.
func TestApplyOfProductsAndSums(t *testing.T) {
	s := source(25)
	for n := range api.MaxRows + 1 {
		for range 4 {
			a, b := s.some(n), s.some(n)
			both := mul(t, a, b)
			for _, x := range s.numbers(n) {
				if got, want := apply(t, both, x), apply(t, a, apply(t, b, x)); got != want {
					t.Errorf("%v, %v, %d: %d, not %d", a, b, x, got, want)
				}
				for _, y := range s.numbers(n) {
					if got, want := apply(t, a, x^y), apply(t, a, x)^apply(t, a, y); got != want {
						t.Errorf("%v, %d, %d: %d, not %d", a, x, y, got, want)
					}
				}
			}
		}
	}
}

// P20.3: the rank of a product is at most the lower one of both, and is the other one's where one has a way back.
func TestRankOfProducts(t *testing.T) {
	s := source(26)
	below := 0
	for n := range api.MaxRows + 1 {
		for range 10 {
			a, b := s.ranked(n, s.below(n+1)), s.ranked(n, s.below(n+1))
			least := min(rank(t, a), rank(t, b))
			if r := rank(t, mul(t, a, b)); r > least {
				t.Errorf("Rank of %v and %v: %d, and %d of both", a, b, least, r)
			} else if r < least {
				below++
			}
			whole := s.ranked(n, n)
			if left, right := rank(t, mul(t, whole, a)), rank(t, mul(t, a, whole)); left != rank(t, a) || right != rank(t, a) {
				t.Errorf("Rank(%v): with %v %d and %d", a, whole, left, right)
			}
		}
	}
	if below < 50 {
		t.Errorf("%d products below both ranks alone", below)
	}
}

// P20.3: the rank of the rows exchanged with the columns is the same.
func TestRankOfColumns(t *testing.T) {
	for n := range 4 {
		allOf(n, func(m api.Linear) {
			if rank(t, m) != rank(t, turned(m)) {
				t.Errorf("Rank(%v): %d, and %d of its columns", m, rank(t, m), rank(t, turned(m)))
			}
		})
	}
	s := source(27)
	for n := range api.MaxRows + 1 {
		for range 10 {
			if m := s.some(n); rank(t, m) != rank(t, turned(m)) {
				t.Errorf("Rank(%v): %d, and %d of its columns", m, rank(t, m), rank(t, turned(m)))
			}
		}
	}
}
