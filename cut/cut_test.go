package cut_test

import (
	"math"
	"slices"
	"testing"

	"cubit/api"
	"cubit/cut"
	"cubit/dense"
)

// The face's functions as the chapter writes them.
var (
	_ func(s api.State, mask uint64) (bool, api.Errno)             = cut.Splits
	_ func(s api.State, mask uint64) (a, b api.State, e api.Errno) = cut.Parts
	_ func(a, b api.State, mask uint64) (api.State, api.Errno)     = cut.Join
)

// tells asks for what Splits tells.
func tells(t *testing.T, s api.State, mask uint64, want bool, wantE api.Errno) {
	t.Helper()
	if yes, e := cut.Splits(s, mask); yes != want || e != wantE {
		t.Errorf("Splits of %v by %b: %v, %d, not %v, %d", few(s), mask, yes, e, want, wantE)
	}
}

// isNone asks for a state that is no product: Parts is refused.
func isNone(t *testing.T, s api.State, mask uint64) {
	t.Helper()
	tells(t, s, mask, false, api.OK)
	noParts(t, s, mask, api.ErrCut)
}

// isRefused asks for an error of Splits and Parts.
func isRefused(t *testing.T, s api.State, mask uint64, want api.Errno) {
	t.Helper()
	tells(t, s, mask, false, want)
	noParts(t, s, mask, want)
}

// noParts asks for an error of Parts, and for nothing beside it.
func noParts(t *testing.T, s api.State, mask uint64, want api.Errno) {
	t.Helper()
	if a, b, e := cut.Parts(s, mask); e != want || !empty(a) || !empty(b) {
		t.Errorf("Parts of %v by %b: %v, %v, %d, not %d alone", few(s), mask, few(a), few(b), e, want)
	}
}

// hasParts asks for a product and for its parts.
func hasParts(t *testing.T, s api.State, mask uint64, wantA, wantB api.State) {
	t.Helper()
	tells(t, s, mask, true, api.OK)
	if a, b, e := cut.Parts(s, mask); !same(a, wantA) || !same(b, wantB) || e != api.OK {
		t.Errorf("Parts of %v by %b: %v, %v, %d, not %v, %v", few(s), mask, few(a), few(b), e, few(wantA), few(wantB))
	}
}

func joins(t *testing.T, a, b api.State, mask uint64, want api.State) {
	t.Helper()
	if z, e := cut.Join(a, b, mask); !same(z, want) || e != api.OK {
		t.Errorf("Join of %v and %v by %b: %v, %d, not %v", few(a), few(b), mask, few(z), e, few(want))
	}
}

func notJoined(t *testing.T, a, b api.State, mask uint64, want api.Errno) {
	t.Helper()
	if z, e := cut.Join(a, b, mask); !empty(z) || e != want {
		t.Errorf("Join of %v and %v by %b: %v, %d, not %d alone", few(a), few(b), mask, few(z), e, want)
	}
}

// A step is a gate on its qubits.
type step struct {
	name   string
	qubits []int
}

// behind is the state behind some gates, from noughts on.
func behind(t *testing.T, n int, steps ...step) api.State {
	t.Helper()
	s, e := dense.Zero(n)
	for _, g := range steps {
		if e == api.OK {
			s, e = dense.Apply(s, g.name, g.qubits)
		}
	}
	if e != api.OK {
		t.Fatalf("%v: %d", steps, e)
	}
	return s
}

func TestNumbersOfTheChapter(t *testing.T) {
	if api.ErrArg != 2 || api.ErrBig != 3 || api.ErrNull != 131 || api.ErrCut != 220 {
		t.Error("the errors are not the chapter's")
	}
	if api.MaxPart != top || api.MaxQubits != most || api.MaxPower != power {
		t.Error("the limits are not the document's")
	}
}

// The chapter's examples.
func TestExamples(t *testing.T) {
	zero := behind(t, 2)
	tells(t, zero, 1, true, api.OK)
	pair := behind(t, 2, step{"h", []int{0}}, step{"cx", []int{0, 1}})
	tells(t, pair, 1, false, api.OK)
	both := behind(t, 2, step{"h", []int{0}}, step{"h", []int{1}})
	hasParts(t, both, 2, numbers(2, 1, 1), numbers(2, 1, 1))
	joins(t, basis(1, 1), basis(1, 0), 2, basis(2, 2))
	noParts(t, pair, 1, api.ErrCut)
	tells(t, zero, 4, false, api.ErrArg)
	tells(t, null(2), 1, false, api.ErrNull)
}

// P22.1: by hand, with elements that tell which of them is which.
func TestPartsByHand(t *testing.T) {
	s := numbers(0, 2, 3, 10, 15, 14, 21, 0, 0) // qubits 2 1 0: 2 3; 10 15; 14 21; 0 0
	hasParts(t, s, 1, numbers(0, 2, 3), numbers(0, 2, 10, 14, 0))
	hasParts(t, s, 6, numbers(0, 2, 10, 14, 0), numbers(0, 2, 3))
	for _, mask := range []uint64{2, 4, 3, 5} {
		isNone(t, s, mask)
	}
	hasParts(t, s, 0, numbers(0, 2), s)
	hasParts(t, s, 7, s, numbers(0, 2))
	middle := numbers(0, 2, 4, 6, 12, 10, 20, 30, 60) // 1 3 in qubit 1; 2 4 10 20 in qubits 2 and 0, which are 1 2 and 2 10
	hasParts(t, middle, 2, numbers(0, 2, 6), numbers(0, 2, 4, 10, 20))
	hasParts(t, middle, 5, numbers(0, 2, 4, 10, 20), numbers(0, 2, 6))
	hasParts(t, middle, 1, numbers(0, 2, 4), numbers(0, 2, 6, 10, 30))
	hasParts(t, middle, 4, numbers(0, 2, 10), numbers(0, 2, 4, 6, 12))
	w := api.Ring{B: 1}
	hasParts(t, elements(1, number(1), w, api.Ring{A: 1i}, api.Ring{B: 1i}), 1, elements(1, number(1), w), elements(1, number(1), api.Ring{A: 1i}))
	isNone(t, elements(1, number(1), w, api.Ring{A: 1i}, api.Ring{B: -1i}), 1)
}

// P22.1: the pivot is the lowest element that isn't nought, wherever it is.
func TestPivots(t *testing.T) {
	hasParts(t, numbers(0, 0, 0, 3, 5), 1, numbers(0, 3, 5), numbers(0, 0, 3))
	hasParts(t, numbers(0, 0, 3, 0, 5), 1, numbers(0, 0, 3), numbers(0, 3, 5))
	hasParts(t, numbers(0, 0, 0, 0, 7), 2, numbers(0, 0, 7), numbers(0, 0, 7))
	hasParts(t, numbers(0, 0, 0, 0, 0, 0, 2, 0, 3), 1, numbers(0, 0, 2), numbers(0, 0, 0, 2, 3))
	hasParts(t, numbers(0, 0, 0, 0, 0, 0, 2, 0, 3), 3, numbers(0, 0, 2, 0, 3), numbers(0, 0, 2))
	isNone(t, numbers(0, 0, 1, 1, 0), 1)
	isNone(t, numbers(0, 0, 1, 1, 1), 1)
	isNone(t, numbers(0, 1, 1, 1, 0), 2)
	isNone(t, numbers(0, 1, 0, 0, 1), 2)
	for n := range most + 1 {
		for _, at := range []int{0, 1<<n - 1, 1 << n / 3} {
			for _, mask := range []uint64{0, all(n), all(n) & 0x155, all(n) & 7, all(n) &^ 7} {
				a, b := basis(ones(mask), inner(at, mask, n)), basis(n-ones(mask), inner(at, all(n)&^mask, n))
				hasParts(t, basis(n, at), mask, a, b)
				joins(t, a, b, mask, basis(n, at))
			}
		}
	}
}

// inner is the number that the qubits of mask have in a basis state, from the highest one on.
func inner(x int, mask uint64, n int) int {
	u := 0
	for j := n - 1; j >= 0; j-- {
		if mask>>j&1 == 1 {
			u = 2*u + x>>j&1
		}
	}
	return u
}

// P22.1: each part has the state's K, or less, if it can be halved while the whole can't.
func TestPartsForms(t *testing.T) {
	r := api.Ring{B: 1 - 1i} // the square root of 2
	hasParts(t, numbers(1, 2, 2, 1, 1), 1, elements(0, r, r), numbers(1, 2, 1))
	hasParts(t, numbers(2, 2, 2, 1, 1), 1, numbers(0, 1, 1), numbers(2, 2, 1))
	hasParts(t, numbers(2, 2, 2, 1, 1), 2, numbers(2, 2, 1), numbers(0, 1, 1))
	hasParts(t, numbers(5, 4, -2, 2, -1), 1, numbers(3, 2, -1), numbers(3, 2, 1))
	hasParts(t, numbers(60, 1, 1<<26, 1, 1<<26), 1, numbers(60, 1, 1<<26), numbers(60, 1, 1))
	hasParts(t, numbers(60, 1<<26, 1<<26, 1, 1), 1, numbers(8, 1, 1), numbers(60, 1<<26, 1))
	hasParts(t, elements(60, r, r, number(1), number(1)), 2, elements(60, r, number(1)), numbers(59, 1, 1))
	hasParts(t, numbers(3, 1024, 1024, 1, 1), 1, elements(0, api.Ring{B: 256 - 256i}, api.Ring{B: 256 - 256i}), numbers(3, 1024, 1))
	hasParts(t, numbers(3, 0, 0, 1024, 1), 1, numbers(3, 1024, 1), elements(0, api.Ring{}, api.Ring{B: 256 - 256i}))
	hasParts(t, numbers(9, 8, 0, 1, 0), 0, numbers(3, 1), numbers(9, 8, 0, 1, 0))
	hasParts(t, numbers(9, 8, 0, 1, 0), 3, numbers(9, 8, 0, 1, 0), numbers(3, 1))
}

// P22.1: products of two elements that are just within the bound are taken, and one more isn't.
func TestGreatestProducts(t *testing.T) {
	const m, n = 441650591, 20394401 // m n is the greatest part
	hasParts(t, numbers(0, 1, m, n, top), 1, numbers(0, 1, m), numbers(0, 1, n))
	hasParts(t, numbers(0, 1, m, -n, -top), 2, numbers(0, 1, -n), numbers(0, 1, m))
	isNone(t, numbers(0, 1, m, n, top-1), 1)
	isRefused(t, numbers(0, 1, m, n+1, top), 1, api.ErrBig)
	isRefused(t, numbers(0, 1, m+1, n, top), 1, api.ErrBig)
	isRefused(t, numbers(0, 2, m, n, top), 1, api.ErrBig)
	isRefused(t, numbers(60, -3, m, n, top), 1, api.ErrBig)
	joins(t, numbers(0, 1, m), numbers(0, 1, n), 1, numbers(0, 1, m, n, top))
	joins(t, numbers(3, 1, m), numbers(0, 1, -n), 2, numbers(3, 1, -n, m, -top))
	notJoined(t, numbers(0, 1, m), numbers(0, 1, n+1), 1, api.ErrBig)
	notJoined(t, numbers(0, 1, m+1), numbers(0, 1, n), 1, api.ErrBig)
	notJoined(t, numbers(0, -m, 1), numbers(0, 0, n+1), 1, api.ErrBig)
}

// P22.1: each of both products is looked at.
func TestBothProducts(t *testing.T) {
	const g = 1 << 27
	for _, mask := range []uint64{1, 2} {
		isRefused(t, numbers(0, g, 0, 0, g), mask, api.ErrBig) // M(1, 1) M(0, 0)
		isRefused(t, numbers(0, g, 1, 1, g), mask, api.ErrBig)
		isRefused(t, numbers(0, 1, g, g, 0), mask, api.ErrBig) // M(1, 0) M(0, 1)
		isRefused(t, numbers(0, 1, g, g, 1), mask, api.ErrBig)
		isRefused(t, numbers(0, g, g, g, g), mask, api.ErrBig)
	}
}

// P22.1: the products with u that is p, or v that is q, refuse nothing, whatever they were.
func TestProductsThatAreNotNamed(t *testing.T) {
	for _, mask := range []uint64{1, 2} {
		hasParts(t, numbers(0, 0, 0, 0, top), mask, numbers(0, 0, top), numbers(0, 0, top))
	}
	hasParts(t, numbers(0, top, top, 0, 0), 1, numbers(0, top, top), numbers(0, top, 0))
	hasParts(t, numbers(0, top, -top, 0, 0), 2, numbers(0, top, 0), numbers(0, top, -top))
	hasParts(t, numbers(0, top, 0, top, 0), 1, numbers(0, top, 0), numbers(0, top, top))
	hasParts(t, numbers(0, 0, top, 0, top), 1, numbers(0, 0, top), numbers(0, top, top))
	hasParts(t, numbers(0, 0, 0, top, top), 1, numbers(0, top, top), numbers(0, 0, top))
	// Ahead of the pivot's row, too: u is 0, p is 1, v is q.
	isNone(t, numbers(0, 0, top, 1, 0), 1)
	isRefused(t, numbers(0, 0, top, 2, 0), 1, api.ErrBig)
	great := slices.Repeat([]int64{top}, 8)
	hasParts(t, numbers(0, great...), 0, numbers(0, top), numbers(0, great...))
	hasParts(t, numbers(7, great...), 7, numbers(7, great...), numbers(7, top))
	isRefused(t, numbers(0, great...), 1, api.ErrBig)
}

// P22.1: a product that is refused comes ahead of what is shown by others, wherever both are.
func TestRefusedWhereNoneIsShown(t *testing.T) {
	s := numbers(0, 2, 1, 1, 1, 1, 1, 1, 1) // 2 times 1 is not 1 times 1
	for _, mask := range []uint64{1, 2, 4, 3, 5, 6} {
		isNone(t, s, mask)
		refused := 0
		for at := 1; at < 8; at++ {
			one := changed(s, at, number(top))
			if uint64(at)&mask == 0 || uint64(at)&^mask == 0 {
				isNone(t, one, mask) // 1 times the greatest part is within the bound
				continue
			}
			refused++
			isRefused(t, one, mask, api.ErrBig) // twice the greatest part isn't
		}
		if refused != 3 {
			t.Errorf("mask %b: refused %d", mask, refused)
		}
		isRefused(t, changed(changed(s, 7&int(mask), number(1<<27)), 7&^int(mask), number(1<<27)), mask, api.ErrBig)
	}
}

// P22.1: a step of ring.Mul that is beyond the bound refuses, though the product isn't.
func TestStepsOfProducts(t *testing.T) {
	// (3 + 2 (1 - i) w) (3 - 2 (1 - i) w) is 9 - 8.
	const k = 50000000
	r, s := api.Ring{A: 3 * k, B: 2*k - 2*k*1i}, api.Ring{A: 3 * k, B: -2*k + 2*k*1i}
	if product := times(r, s); product[0].Int64() != k*k || !product.is(times(number(k*k), number(1))) {
		t.Fatal(product)
	}
	notJoined(t, elements(0, r), elements(0, s), 0, api.ErrBig)
	isRefused(t, elements(0, r, number(1), number(1), s), 1, api.ErrBig)
	isRefused(t, elements(0, number(1), r, s, number(1)), 1, api.ErrBig)
}

// P22.1: the K of a joined state is that of both together, or less, where it can be halved.
func TestJoinsForm(t *testing.T) {
	one, h := numbers(0, 1, 0), numbers(1, 1, 1)
	joins(t, h, h, 1, numbers(2, 1, 1, 1, 1))
	joins(t, h, one, 1, numbers(1, 1, 1, 0, 0))
	joins(t, h, one, 2, numbers(1, 1, 0, 1, 0))
	joins(t, numbers(0, 2, 4), numbers(3, 1, 3), 1, numbers(1, 1, 2, 3, 6))
	joins(t, numbers(0, 4, 8), numbers(3, 1, 0), 1, elements(0, api.Ring{B: 1 - 1i}, api.Ring{B: 2 - 2i}, api.Ring{}, api.Ring{}))
	joins(t, numbers(60, 1, 0), numbers(0, 16, 0), 1, numbers(52, 1, 0, 0, 0))
	// 1 + w is no multiple of the square root of 2, but its square is.
	a := elements(1, api.Ring{A: 1, B: 1}, api.Ring{})
	half := api.Ring{A: 1 + 1i, B: 1} // of 1 + 2 w + i
	joins(t, a, a, 2, elements(1, half, api.Ring{}, api.Ring{}, api.Ring{}))
	joins(t, null(2), numbers(60, 1, 1), 3, null(3))
	joins(t, numbers(60, 1, 1), null(2), 1, null(3))
	joins(t, null(0), null(10), 0, null(10))
}

// P22.1: Join is refused where the K of the one form is above MaxPower, not where only the K ahead of it is.
func TestGreatestPowers(t *testing.T) {
	r := api.Ring{A: 1, B: 1}
	at := func(k int) api.State { return elements(k, r, api.Ring{}) }
	for k := range power + 1 {
		joins(t, numbers(k, 1, 0), numbers(power-k, 0, 1), 1, numbers(power, 0, 0, 1, 0))
		if k == 0 {
			continue
		}
		notJoined(t, numbers(k, 1, 0), numbers(power+1-k, 0, 1), 1, api.ErrBig)
		notJoined(t, at(k), numbers(power+1-k, 0, 1), 1, api.ErrBig)
		joins(t, at(k), at(power+1-k), 1, elements(power, api.Ring{A: 1 + 1i, B: 1}, api.Ring{}, api.Ring{}, api.Ring{}))
		if k > 1 {
			notJoined(t, at(k), at(power+2-k), 1, api.ErrBig)
		}
	}
	notJoined(t, at(power), at(power), 2, api.ErrBig)
	notJoined(t, numbers(power, 1, 0), numbers(power, 1, 0), 2, api.ErrBig)
	notJoined(t, numbers(power, 1), numbers(1, 1), 0, api.ErrBig)
}

// P22.1: products beyond the bound refuse Join, though its one form would bring them back.
func TestJoinAheadOfHalving(t *testing.T) {
	joins(t, numbers(0, top, 0), numbers(30, 1, 0), 1, numbers(30, top, 0, 0, 0))
	notJoined(t, numbers(0, 1<<52, 0), numbers(30, 2, 1), 1, api.ErrBig)
	notJoined(t, numbers(0, 0, 1<<52), numbers(30, 1, -2), 1, api.ErrBig)
	notJoined(t, numbers(0, 4, 0), numbers(30, 1<<51, 1), 2, api.ErrBig)
	joins(t, numbers(0, 0, 0), numbers(30, top, -top), 2, null(2))
	joins(t, numbers(0, 1, 0), numbers(30, top, -top), 2, numbers(30, top, -top, 0, 0))
}

// P22.1, P22.4: states of no qubits are numbers.
func TestNoQubits(t *testing.T) {
	a := elements(3, api.Ring{A: 1, B: 2})
	hasParts(t, a, 0, a, a)
	joins(t, a, numbers(0, 3), 0, elements(3, api.Ring{A: 3, B: 6}))
	joins(t, numbers(0, 1), a, 0, a)
	isRefused(t, null(0), 0, api.ErrNull)
	isRefused(t, a, 1, api.ErrArg)
	isRefused(t, a, 1<<63, api.ErrArg)
	notJoined(t, a, a, 1, api.ErrArg)
	hasParts(t, numbers(60, top), 0, numbers(60, top), numbers(60, top))
}

// P22.1: noughts of an answer have no sign.
func TestNoNegativeNoughts(t *testing.T) {
	s := source(21)
	for range 300 {
		a, b := s.state(1, 2, s.below(3)), s.state(2, 2, s.below(3))
		z, e := cut.Join(a, b, 2)
		if e != api.OK {
			t.Fatal(e)
		}
		noMinus(t, z)
		if y, x, e := cut.Parts(z, 2); e == api.OK {
			noMinus(t, y)
			noMinus(t, x)
		}
	}
}

func noMinus(t *testing.T, s api.State) {
	t.Helper()
	for _, r := range s.Amps {
		for _, part := range []float64{real(r.A), imag(r.A), real(r.B), imag(r.B)} {
			if part == 0 && math.Signbit(part) {
				t.Fatalf("%v: a nought with a sign", s)
			}
		}
	}
}
