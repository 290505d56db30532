package expect_test

import (
	"math"
	"slices"
	"testing"

	"cubit/api"
	"cubit/dense"
	"cubit/expect"
)

// The face's functions as the chapter writes them.
var (
	_ func(s api.State, p api.Pauli) (api.Root, api.Errno)                     = expect.Value
	_ func(s api.State, ps []api.Pauli, factors []int64) (api.Root, api.Errno) = expect.Sum
	_ func(s api.State, p api.Pauli) (api.State, api.Errno)                    = expect.Act
)

func hasValue(t *testing.T, s api.State, text string, want api.Root) {
	t.Helper()
	if r, e := expect.Value(s, of(t, text)); r != want || e != api.OK {
		t.Errorf("Value of %s in %v: %v, %d, not %v", text, few(s), r, e, want)
	}
}

func refusedValue(t *testing.T, s api.State, text string, want api.Errno) {
	t.Helper()
	if r, e := expect.Value(s, of(t, text)); r != (api.Root{}) || e != want {
		t.Errorf("Value of %s in %v: %v, %d, not %d", text, few(s), r, e, want)
	}
}

func hasSum(t *testing.T, s api.State, texts []string, factors []int64, want api.Root, wantE api.Errno) {
	t.Helper()
	var ps []api.Pauli
	for _, text := range texts {
		ps = append(ps, of(t, text))
	}
	if r, e := expect.Sum(s, ps, factors); r != want || e != wantE {
		t.Errorf("Sum of %v times %v in %v: %v, %d, not %v, %d", texts, factors, few(s), r, e, want, wantE)
	}
}

func becomes(t *testing.T, s api.State, text string, want api.State) {
	t.Helper()
	if z, e := expect.Act(s, of(t, text)); e != api.OK || !same(z, want) {
		t.Errorf("Act of %s on %v: %v, %d, not %v", text, few(s), few(z), e, few(want))
	}
}

// The chapter's examples.
func TestExamples(t *testing.T) {
	zero, one := basis(1, 0), api.Root{P: 1}
	hasValue(t, zero, "Z", one)
	hasValue(t, zero, "X", api.Root{})
	hasValue(t, zero, "Y", api.Root{})
	hasValue(t, zero, "-Z", api.Root{P: -1})
	plus := numbers(1, 1, 1)
	hasValue(t, plus, "X", one)
	hasValue(t, plus, "Z", api.Root{})
	turned := elements(1, number(1), api.Ring{B: 1})
	hasValue(t, turned, "X", api.Root{Q: 1, K: 1})
	hasValue(t, turned, "Y", api.Root{Q: 1, K: 1})
	becomes(t, zero, "Y", elements(0, api.Ring{}, api.Ring{A: 1i}))
	becomes(t, zero, "iZ", elements(0, api.Ring{A: 1i}, api.Ring{}))
	refusedValue(t, zero, "iZ", api.ErrArg)
	hasSum(t, zero, []string{"Z", "X"}, []int64{3, 2}, api.Root{P: 3}, api.OK)
}

// P21.1: the letters on one qubit, on both basis states, with all Phases.
func TestLetters(t *testing.T) {
	for _, c := range []struct {
		text      string
		zero, one api.State
	}{
		{"I", numbers(0, 1, 0), numbers(0, 0, 1)},
		{"X", numbers(0, 0, 1), numbers(0, 1, 0)},
		{"Y", elements(0, api.Ring{}, api.Ring{A: 1i}), elements(0, api.Ring{A: -1i}, api.Ring{})},
		{"Z", numbers(0, 1, 0), numbers(0, 0, -1)},
		{"-I", numbers(0, -1, 0), numbers(0, 0, -1)},
		{"-Y", elements(0, api.Ring{}, api.Ring{A: -1i}), elements(0, api.Ring{A: 1i}, api.Ring{})},
		{"iY", numbers(0, 0, -1), numbers(0, 1, 0)},
		{"-iY", numbers(0, 0, 1), numbers(0, -1, 0)},
		{"iX", elements(0, api.Ring{}, api.Ring{A: 1i}), elements(0, api.Ring{A: 1i}, api.Ring{})},
		{"-iZ", elements(0, api.Ring{A: -1i}, api.Ring{}), elements(0, api.Ring{}, api.Ring{A: 1i})},
	} {
		becomes(t, basis(1, 0), c.text, c.zero)
		becomes(t, basis(1, 1), c.text, c.one)
	}
	becomes(t, numbers(3, 1, 2, 3, 4), "XI", numbers(3, 3, 4, 1, 2))
	becomes(t, numbers(3, 1, 2, 3, 4), "IX", numbers(3, 2, 1, 4, 3))
	becomes(t, numbers(3, 1, 2, 3, 4), "ZX", numbers(3, 2, 1, -4, -3))
	becomes(t, elements(60, api.Ring{A: 1 + 2i, B: 3 + 4i}, api.Ring{}), "iX", elements(60, api.Ring{}, api.Ring{A: -2 + 1i, B: -4 + 3i}))
}

// P21.1: a state of no qubits has strings without letters.
func TestNoQubits(t *testing.T) {
	a := elements(3, api.Ring{A: 1, B: 2})
	hasValue(t, a, "+", api.Root{P: 5, Q: 2, K: 3})
	hasValue(t, a, "-", api.Root{P: -5, Q: -2, K: 3})
	becomes(t, a, "i", elements(3, api.Ring{A: 1i, B: 2i}))
	becomes(t, a, "-", elements(3, api.Ring{A: -1, B: -2}))
	refusedValue(t, a, "i", api.ErrArg)
	refusedValue(t, a, "-i", api.ErrArg)
}

// P21.1: states aren't divided by their weight, and noughts alone are a state too.
func TestStatesAsTheyAre(t *testing.T) {
	hasValue(t, numbers(0, 3, 0), "Z", api.Root{P: 9})
	hasValue(t, numbers(2, 3, 1), "Z", api.Root{P: 2})
	hasValue(t, numbers(2, 3, 1), "I", api.Root{P: 5, K: 1})
	hasValue(t, numbers(2, 3, 1), "X", api.Root{P: 3, K: 1})
	hasValue(t, numbers(60, 1, 0), "-Z", api.Root{P: -1, K: 60})
	for _, text := range []string{"II", "XZ", "-YY", "ZI"} {
		hasValue(t, null(2), text, api.Root{})
		becomes(t, null(2), text, null(2))
	}
	becomes(t, null(2), "-iXY", null(2))
	hasSum(t, null(1), []string{"I", "X"}, []int64{math.MaxInt64, math.MinInt64}, api.Root{}, api.OK)
}

// P21.1: a noughts' sign is never told: parts of 0 are turned too.
func TestNoNegativeNoughts(t *testing.T) {
	for _, p := range strings(1, 0, 1, 2, 3) {
		z, e := expect.Act(numbers(0, 1, 0), p)
		if e != api.OK || dense.Check(z) != api.OK {
			t.Errorf("Act of %v: %v, %d", p, z, e)
		}
		for _, r := range z.Amps {
			for _, part := range []float64{real(r.A), imag(r.A), real(r.B), imag(r.B)} {
				if part == 0 && math.Signbit(part) {
					t.Errorf("Act of %v: a nought with a sign", p)
				}
			}
		}
	}
}

// P21.1: the greatest P and Q that are answered, and those that are one greater.
func TestGreatestValues(t *testing.T) {
	const half = 1 << 52
	hasValue(t, numbers(0, half, half-1), "Z", api.Root{P: top})
	hasValue(t, numbers(0, half, half-1), "-Z", api.Root{P: -top})
	hasValue(t, numbers(0, half-1, half), "Z", api.Root{P: -top})
	refusedValue(t, numbers(0, half/2+1, half/2-1), "Z", api.ErrBig)  // 2^53
	refusedValue(t, numbers(0, half/2-1, half/2+1), "Z", api.ErrBig)  // -2^53
	refusedValue(t, numbers(0, half/2-1, half/2+1), "-Z", api.ErrBig) // 2^53
	hasValue(t, numbers(1, half/2+1, half/2-1), "Z", api.Root{P: half})
	hasValue(t, numbers(1, half/2-1, half/2+1), "Z", api.Root{P: -half})
	hasValue(t, numbers(60, half, half-1), "Z", api.Root{P: top, K: 60})
	refusedValue(t, numbers(60, half+1, half), "Z", api.ErrBig) // 2^53 + 1 over 2^60
	refusedValue(t, numbers(0, top, 0), "Z", api.ErrBig)
	refusedValue(t, numbers(0, top, top), "X", api.ErrBig)
	hasValue(t, numbers(0, top, 0), "X", api.Root{})
	hasValue(t, numbers(0, top, top), "Z", api.Root{})
	hasValue(t, numbers(0, top, top-1, top-2, top-3), "ZZ", api.Root{P: 4})
	hasValue(t, numbers(60, top, top-1, top-2, top-3), "-ZZ", api.Root{P: -1, K: 58})
	// 441650591 * 20394401 is the greatest part; 442121220 squared takes most of P away.
	greatQ := elements(0, api.Ring{A: 441650591, B: 20394401}, number(442121220))
	const restP = 441650591*441650591 + 20394401*20394401 - 442121220*442121220
	hasValue(t, greatQ, "Z", api.Root{P: restP, Q: top})
	hasValue(t, greatQ, "-Z", api.Root{P: -restP, Q: -top})
	greatQ.K = 60
	hasValue(t, greatQ, "Z", api.Root{P: restP, Q: top, K: 60})
}

// P21.1: Q beyond the bound while P is within it, and brought back by a halving.
func TestGreatestQ(t *testing.T) {
	// In Z: P is 2^54 less the square of 2^27, Q is (2^27 + 1) (2^26 - 1) + 2^26 + 1, which is 2^53.
	a := elements(0, api.Ring{A: 1<<27 + 1, B: 1<<26 - 1}, api.Ring{A: 1, B: -(1<<26 + 1)}, api.Ring{}, number(1<<27))
	refusedValue(t, a, "IZ", api.ErrBig)
	refusedValue(t, a, "-IZ", api.ErrBig)
	a.K = 1
	hasValue(t, a, "IZ", api.Root{Q: 1 << 52})
	hasValue(t, a, "-IZ", api.Root{Q: -1 << 52})
	a.K = 60
	hasValue(t, a, "IZ", api.Root{Q: 1, K: 7})
}

// P21.1: a value is refused by what is left behind the halvings alone, where dense.Weight is refused ahead of them.
func TestHalvedAheadOfTheBound(t *testing.T) {
	const n = 94906265 // squared it is below 2^53, twice its square isn't
	a := numbers(1, n, n)
	if _, e := dense.Weight(a); e != api.ErrBig {
		t.Errorf("Weight: %d", e)
	}
	hasValue(t, a, "I", api.Root{P: n * n})
	hasValue(t, a, "X", api.Root{P: n * n})
	hasValue(t, a, "-I", api.Root{P: -n * n})
	a.K = 0
	refusedValue(t, a, "I", api.ErrBig)
	refusedValue(t, a, "X", api.ErrBig)
}

// P21.1: of Sum what is answered alone is looked at: sums may leave every bound on the way.
func TestSumsThatComeBack(t *testing.T) {
	zero, great := basis(1, 0), numbers(0, top, 0)
	const high, low = math.MaxInt64, math.MinInt64
	hasSum(t, zero, []string{"Z", "I"}, []int64{top, 0}, api.Root{P: top}, api.OK)
	hasSum(t, zero, []string{"Z", "I"}, []int64{-top, 0}, api.Root{P: -top}, api.OK)
	hasSum(t, zero, []string{"Z", "I"}, []int64{top, 1}, api.Root{}, api.ErrBig)
	hasSum(t, zero, []string{"Z", "-I"}, []int64{-top, 1}, api.Root{}, api.ErrBig)
	hasSum(t, zero, []string{"Z", "I", "-Z"}, []int64{top, 1, 1}, api.Root{P: top}, api.OK)
	hasSum(t, zero, []string{"Z", "Z"}, []int64{high, low}, api.Root{P: -1}, api.OK)
	hasSum(t, zero, []string{"Z", "-Z"}, []int64{low, low}, api.Root{}, api.OK)
	hasSum(t, zero, []string{"Z"}, []int64{low}, api.Root{}, api.ErrBig)
	hasSum(t, zero, []string{"-Z"}, []int64{low}, api.Root{}, api.ErrBig)
	hasSum(t, zero, []string{"X", "-X"}, []int64{low, high}, api.Root{}, api.OK)
	hasSum(t, zero, []string{"Z", "Z", "Z"}, []int64{high, high, 7}, api.Root{}, api.ErrBig)     // 2^64 + 5
	hasSum(t, zero, []string{"Z", "Z", "Z"}, []int64{low, low, -5}, api.Root{}, api.ErrBig)      // -2^64 - 5
	hasSum(t, zero, []string{"Z", "Z", "Z"}, []int64{low, low, low + 5}, api.Root{}, api.ErrBig) // -2^64 - 2^63 + 5
	hasSum(t, great, []string{"Z", "Z"}, []int64{high, -high}, api.Root{}, api.OK)
	hasSum(t, great, []string{"Z", "I", "Z"}, []int64{low, high, 1}, api.Root{}, api.OK)
	hasSum(t, great, []string{"Z", "I", "Z", "X"}, []int64{low, high, 2, 9}, api.Root{}, api.ErrBig)
}

// P21.1: multiples of 2^64, of 2^128 and of 2^192 are no noughts, and nought is left where they meet.
func TestSumsOfManyBits(t *testing.T) {
	const size = 1 << 62
	a := numbers(0, 1<<32, 0, 1, 0) // II is 2^64 + 1, ZI is 2^64 - 1
	four, all := []string{"II", "II", "ZI", "ZI"}, []int64{size, size, size, size}
	hasSum(t, a, four, all, api.Root{}, api.ErrBig) // 2^128
	hasSum(t, a, []string{"-II", "-II", "-ZI", "-ZI"}, all, api.Root{}, api.ErrBig)
	hasSum(t, a, append(four, "II", "ZI"), append(all, 3, -3), api.Root{}, api.ErrBig) // 2^128 + 6
	hasSum(t, a, append(four, "-IZ", "-IZ", "-II", "-II", "II", "ZI"), append(all, size, size, size, size, 3, -3), api.Root{}, api.ErrBig)
	hasSum(t, a, append(four, "-II", "-II", "-ZI", "-ZI", "II", "ZI"), append(all, size, size, size, size, 3, -3), api.Root{P: 6}, api.OK)
	hasSum(t, a, []string{"II", "ZI"}, []int64{3, -3}, api.Root{P: 6}, api.OK)
	hasSum(t, a, []string{"II", "ZI"}, []int64{1, 1}, api.Root{}, api.ErrBig)   // 2^65
	hasSum(t, a, []string{"-II", "-ZI"}, []int64{1, 1}, api.Root{}, api.ErrBig) // -2^65
	// Each element weighs 2^106, with 2^105 or its negative beside the square root of 2.
	const part = 1 << 52
	wide := api.State{N: most}
	for range 1 << (most - 1) {
		r := api.Ring{A: complex(part, part), B: complex(part, -part)}
		wide.Amps = append(wide.Amps, r, api.Ring{A: r.A, B: -r.B})
	}
	eyes, factors := slices.Repeat([]api.Pauli{{N: most}}, 1<<13), slices.Repeat([]int64{math.MinInt64}, 1<<13)
	if r, e := expect.Sum(wide, eyes, factors); r != (api.Root{}) || e != api.ErrBig {
		t.Errorf("Sum that is -2^192: %v, %d", r, e)
	}
	for j := range len(eyes) / 2 {
		eyes[j].Phase = 2
	}
	if r, e := expect.Sum(wide, eyes, factors); r != (api.Root{}) || e != api.OK {
		t.Errorf("Sum of which nothing is left: %v, %d", r, e)
	}
}

// P21.1: Sum is brought into one form behind all sums.
func TestSumsForm(t *testing.T) {
	const half = 1 << 52
	a := numbers(60, half, half-1)
	hasSum(t, a, []string{"Z"}, []int64{1 << 60}, api.Root{P: top}, api.OK)
	hasSum(t, a, []string{"-Z"}, []int64{1 << 60}, api.Root{P: -top}, api.OK)
	hasSum(t, a, []string{"Z"}, []int64{1 << 61}, api.Root{}, api.ErrBig)
	hasSum(t, a, []string{"Z"}, []int64{-1 << 59}, api.Root{P: -top, K: 1}, api.OK)
	hasSum(t, a, []string{"Z"}, []int64{3}, api.Root{}, api.ErrBig)
	b := elements(1, number(1), api.Ring{B: 1})
	hasSum(t, b, []string{"X", "Y", "I"}, []int64{1, 1, 0}, api.Root{Q: 1}, api.OK)
	hasSum(t, b, []string{"X", "Y", "I"}, []int64{1, 2, 3}, api.Root{P: 6, Q: 3, K: 1}, api.OK)
	hasSum(t, b, []string{"X", "Y", "I"}, []int64{2, -2, 5}, api.Root{P: 5}, api.OK)
	hasSum(t, b, []string{"X", "-Y"}, []int64{7, 7}, api.Root{}, api.OK)
	hasSum(t, b, []string{"X"}, []int64{2 * top}, api.Root{Q: top}, api.OK)
	hasSum(t, b, []string{"X"}, []int64{2*top + 2}, api.Root{}, api.ErrBig)
	hasSum(t, b, []string{"X"}, []int64{-2*top - 1}, api.Root{}, api.ErrBig)
	hasSum(t, b, []string{"-X"}, []int64{2*top - 1}, api.Root{}, api.ErrBig)
	hasSum(t, b, []string{"X", "I"}, []int64{top, 1}, api.Root{P: 2, Q: top, K: 1}, api.OK)
	hasSum(t, b, []string{"X", "I"}, []int64{-(1<<53 + 1), 1}, api.Root{}, api.ErrBig)
}

// P21.1: of no strings, nil and empty lists alike.
func TestSumOfNone(t *testing.T) {
	for _, a := range []api.State{basis(1, 0), basis(0, 0), basis(10, 5), null(3), numbers(0, top, top), numbers(60, 1, 1)} {
		for _, ps := range [][]api.Pauli{nil, {}} {
			for _, factors := range [][]int64{nil, {}} {
				if r, e := expect.Sum(a, ps, factors); r != (api.Root{}) || e != api.OK {
					t.Errorf("Sum of nothing in %v: %v, %d", few(a), r, e)
				}
			}
			if r, e := expect.Sum(a, ps, []int64{0}); r != (api.Root{}) || e != api.ErrArg {
				t.Errorf("Sum of nothing with a factor in %v: %v, %d", few(a), r, e)
			}
		}
	}
}

// P21.1: Act is never refused by size.
func TestActOnTheGreatest(t *testing.T) {
	r := api.Ring{A: top - top*1i, B: -top + (top-1)*1i}
	turned := api.Ring{A: top + top*1i, B: -(top - 1) - top*1i}
	for _, k := range []int{0, 1, 60} {
		becomes(t, elements(k, r, r), "iX", elements(k, turned, turned))
		becomes(t, elements(k, r, r), "iI", elements(k, turned, turned))
	}
	s := source(21)
	for n := range most + 1 {
		a := s.state(n, 54, pick(&s, 0, 1, power))
		for range 10 {
			p := s.string(n, 0, 1, 2, 3)
			if _, e := expect.Act(a, p); e != api.OK {
				t.Fatalf("Act of %v on %v: %d", p, few(a), e)
			}
		}
	}
}
