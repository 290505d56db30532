package expect_test

import (
	"math"
	"slices"
	"testing"

	"cubit/api"
	"cubit/dense"
	"cubit/expect"
	"cubit/pauli"
)

// A wrong is a state with the error of dense.Check.
type wrong struct {
	s api.State
	e api.Errno
}

// wrongStates are those with one fault, and some with two.
func wrongStates() []wrong {
	two := make([]api.Ring, 2)
	list := []wrong{
		{api.State{}, api.ErrState}, {api.State{N: 1}, api.ErrState}, {api.State{N: 1, Amps: two[:1]}, api.ErrState},
		{api.State{N: 0, Amps: two}, api.ErrState}, {api.State{N: 2, Amps: two}, api.ErrState},
		{api.State{N: -1, Amps: two}, api.ErrState}, {api.State{N: 11, Amps: make([]api.Ring, 2048)}, api.ErrState},
		{api.State{N: math.MinInt}, api.ErrState}, {api.State{N: math.MaxInt, Amps: two}, api.ErrState}, {api.State{N: 64, Amps: two[:1]}, api.ErrState},
		{numbers(-1, 1, 0), api.ErrState}, {numbers(61, 1, 0), api.ErrState}, {numbers(math.MaxInt, 1, 0), api.ErrState}, {numbers(math.MinInt, 1, 0), api.ErrState},
		{numbers(1, 0, 0), api.ErrState}, {numbers(60, 0, 0), api.ErrState}, {numbers(2, 2, 0), api.ErrState}, {numbers(1, 4, 2), api.ErrState},
		{elements(1, api.Ring{A: 1 + 1i}, api.Ring{B: 1 - 3i}), api.ErrState},
		{elements(61, api.Ring{A: 0.5}, number(1)), api.ErrState}, {elements(0, api.Ring{A: 0.5}, number(1), number(1)), api.ErrState},
	}
	minus, infinite := math.Copysign(0, -1), math.Inf(1)
	for _, p := range []float64{minus, 0.5, -1.5, 1 << 53, -(1 << 53), 1e300, infinite, -infinite, math.NaN()} {
		for _, c := range []complex128{complex(p, 0), complex(0, p), complex(2, p), complex(p, p)} {
			list = append(list, wrong{elements(0, api.Ring{A: c}, number(1)), api.ErrWhole}, wrong{elements(0, number(1), api.Ring{B: c}), api.ErrWhole}, wrong{elements(1, number(2), api.Ring{A: c}), api.ErrWhole})
		}
	}
	return list
}

// wrongStrings are such as pauli.Check refuses.
func wrongStrings() []api.Pauli {
	return []api.Pauli{
		{N: -1}, {N: 65}, {N: math.MinInt}, {N: math.MaxInt}, {N: 1, X: 2}, {N: 1, Z: 2}, {N: 1, X: 1 << 63}, {N: 0, X: 1}, {N: 0, Z: 1}, {N: 63, Z: 1 << 63},
		{N: 1, Phase: 4}, {N: 1, Phase: -1}, {N: 1, Phase: -2}, {N: 1, Phase: math.MaxInt}, {N: 1, Phase: math.MinInt}, {N: 10, X: 1024},
		{N: 2, X: 4}, {N: 2, Z: 1 << 40, Phase: 1}, {N: 64, Phase: 4}, {N: 3, X: 1, Phase: -4},
	}
}

// otherStrings are right ones, but on other numbers of qubits than n.
func otherStrings(n int) []api.Pauli {
	var list []api.Pauli
	for _, m := range []int{0, n - 1, n + 1, 10, 11, 63, 64} {
		if m >= 0 && m != n {
			list = append(list, api.Pauli{N: m}, api.Pauli{N: m, Phase: 2}, api.Pauli{N: m, Phase: 1})
		}
		if m > 0 && m != n {
			list = append(list, api.Pauli{N: m, X: 1 << (m - 1)}, api.Pauli{N: m, X: 1, Z: 1, Phase: 3})
		}
	}
	return list
}

// tellsValue asks for Value's error, and Act's, with their zero values beside them.
func tellsValue(t *testing.T, s api.State, p api.Pauli, e, eAct api.Errno) {
	t.Helper()
	if r, got := expect.Value(s, p); got != e || e != api.OK && r != (api.Root{}) {
		t.Errorf("Value of %v in %v: %v, %d, not %d", p, few(s), r, got, e)
	}
	z, got := expect.Act(s, p)
	if got != eAct || eAct != api.OK && (z.N != 0 || z.K != 0 || len(z.Amps) != 0) {
		t.Errorf("Act of %v on %v: %v, %d, not %d", p, few(s), few(z), got, eAct)
	}
}

// tellsSum asks for Sum's error.
func tellsSum(t *testing.T, s api.State, ps []api.Pauli, factors []int64, e api.Errno) {
	t.Helper()
	if r, got := expect.Sum(s, ps, factors); got != e || e != api.OK && r != (api.Root{}) {
		t.Errorf("Sum of %v times %v in %v: %v, %d, not %d", ps, factors, few(s), r, got, e)
	}
}

// Rule 8, P21.1: states that dense.Check refuses come ahead of all else.
func TestWrongStates(t *testing.T) {
	right := append(strings(1, 0, 1, 2, 3), api.Pauli{})
	for _, w := range wrongStates() {
		if e := dense.Check(w.s); e != w.e {
			t.Fatalf("%v: %d, not %d", few(w.s), e, w.e)
		}
		for _, p := range slices.Concat(right, wrongStrings(), otherStrings(1)) {
			tellsValue(t, w.s, p, w.e, w.e)
			tellsSum(t, w.s, []api.Pauli{p}, []int64{1}, w.e)
			tellsSum(t, w.s, []api.Pauli{p}, nil, w.e)
		}
		tellsSum(t, w.s, nil, nil, w.e)
		tellsSum(t, w.s, nil, []int64{1}, w.e)
	}
}

// Rule 8, P21.1: then strings that pauli.Check refuses; of Sum wherever they stand.
func TestWrongStrings(t *testing.T) {
	for _, a := range []api.State{basis(0, 0), basis(1, 1), numbers(0, top, 0), numbers(1, 1, 1, 0, 0), basis(3, 2), null(10)} {
		other := otherStrings(a.N)
		for _, p := range wrongStrings() {
			if e := pauli.Check(p); e != api.ErrPauli {
				t.Fatalf("%v: %d", p, e)
			}
			tellsValue(t, a, p, api.ErrPauli, api.ErrPauli)
			one := api.Pauli{N: a.N}
			for _, ps := range [][]api.Pauli{{p}, {p, one}, {one, p}, {one, one, p, one}, {{N: a.N, Phase: 1}, p}, {other[0], p}, {other[0], other[1], one, p}, {p, other[0]}, {p, p}} {
				tellsSum(t, a, ps, make([]int64, len(ps)), api.ErrPauli)
				tellsSum(t, a, ps, make([]int64, len(ps)+1), api.ErrPauli)
				tellsSum(t, a, ps, nil, api.ErrPauli)
			}
		}
	}
}

// P21.1: then strings on fewer and on more qubits than the state, of whatever Phase.
func TestOtherQubits(t *testing.T) {
	for n := range most + 1 {
		for _, a := range []api.State{basis(n, 0), null(n)} {
			for _, p := range otherStrings(n) {
				tellsValue(t, a, p, api.ErrArg, api.ErrArg)
				one := api.Pauli{N: n}
				for _, ps := range [][]api.Pauli{{p}, {p, one}, {one, p}, {one, one, p, one}} {
					tellsSum(t, a, ps, make([]int64, len(ps)), api.ErrArg)
					tellsSum(t, a, ps, make([]int64, 7), api.ErrArg)
				}
			}
		}
	}
}

// P21.1: odd Phases are taken by Act alone.
func TestOddPhases(t *testing.T) {
	for n := range 4 {
		for _, a := range []api.State{basis(n, 0), null(n)} {
			one := api.Pauli{N: n, Phase: 2}
			for _, p := range strings(n, 1, 3) {
				tellsValue(t, a, p, api.ErrArg, api.OK)
				for _, ps := range [][]api.Pauli{{p}, {p, one}, {one, p}, {one, one, p, one}, {p, p}} {
					tellsSum(t, a, ps, make([]int64, len(ps)), api.ErrArg)
					tellsSum(t, a, ps, make([]int64, len(ps)-1), api.ErrArg)
				}
			}
		}
	}
}

// P21.1: there must be as many factors as strings, whatever is in them.
func TestAsManyFactors(t *testing.T) {
	a := basis(2, 1)
	for m := range 5 {
		ps := slices.Repeat([]api.Pauli{{N: 2, Z: 3}}, m)
		for k := range 7 {
			for _, f := range []int64{0, 1, math.MaxInt64, math.MinInt64} {
				want := api.OK
				if k != m {
					want = api.ErrArg
				} else if m > 0 && f != 0 && f != 1 {
					want = api.ErrBig
				}
				tellsSum(t, a, ps, slices.Repeat([]int64{f}, k), want)
			}
		}
	}
}

// P21.1: what is wrong with an argument comes ahead of what is too great.
func TestArgumentsAheadOfSize(t *testing.T) {
	great := numbers(0, top, 0)
	tellsValue(t, great, of(t, "Z"), api.ErrBig, api.OK)
	tellsValue(t, great, of(t, "-iZ"), api.ErrArg, api.OK)
	tellsValue(t, great, of(t, "IZ"), api.ErrArg, api.ErrArg)
	tellsValue(t, great, api.Pauli{N: 1, Z: 1, Phase: 4}, api.ErrPauli, api.ErrPauli)
	z := of(t, "Z")
	tellsSum(t, great, []api.Pauli{z}, []int64{1}, api.ErrBig)
	tellsSum(t, great, []api.Pauli{z, z}, []int64{1}, api.ErrArg)
	tellsSum(t, great, []api.Pauli{z, of(t, "iZ")}, []int64{1, 0}, api.ErrArg)
	tellsSum(t, great, []api.Pauli{z, of(t, "")}, []int64{1, 0}, api.ErrArg)
	tellsSum(t, great, []api.Pauli{z, {N: 1, X: 2}}, []int64{1, 0}, api.ErrPauli)
}

// shaped is a string with something changed, right or not.
func (s *source) shaped(p api.Pauli) api.Pauli {
	switch s.below(16) {
	case 0, 4, 5:
		p.N += s.below(5) - 2
	case 1:
		p.X |= 1 << s.below(64)
	case 2:
		p.Z |= 1 << s.below(64)
	case 3:
		p.Phase += s.below(7) - 3
	}
	return p
}

// ranked is the error that the chapter's list tells of such strings and so many factors.
func ranked(a api.State, ps []api.Pauli, factors int, phases bool) api.Errno {
	for _, p := range ps {
		if p.N < 0 || p.N > 64 || p.N < 64 && (p.X|p.Z) >= 1<<p.N || p.Phase < 0 || p.Phase > 3 {
			return api.ErrPauli
		}
	}
	for _, p := range ps {
		if p.N != a.N || phases && p.Phase%2 == 1 {
			return api.ErrArg
		}
	}
	if factors != len(ps) {
		return api.ErrArg
	}
	return api.OK
}

// Rule 1, rule 2: strings of all shapes, several of them at once.
func TestAllShapes(t *testing.T) {
	s := source(51)
	counts := map[api.Errno]int{}
	for range 6000 {
		n := s.below(most + 1)
		a := basis(n, s.below(1<<n))
		var ps []api.Pauli
		for range 1 + s.below(4) {
			ps = append(ps, s.shaped(s.string(n, 0, 0, 0, 0, 2, 2, 2, 2, 2, 1, 3)))
		}
		tellsValue(t, a, ps[0], ranked(a, ps[:1], 1, true), ranked(a, ps[:1], 1, false))
		factors := make([]int64, len(ps)+pick(&s, 0, 0, 0, 1, -1))
		want := ranked(a, ps, len(factors), true)
		tellsSum(t, a, ps, factors, want)
		counts[want]++
	}
	if counts[api.OK] < 500 || counts[api.ErrPauli] < 500 || counts[api.ErrArg] < 500 {
		t.Errorf("errors: %v", counts)
	}
}
