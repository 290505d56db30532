package sparse_test

import (
	"math"
	"slices"
	"testing"

	"cubit/api"
	"cubit/dense"
	"cubit/sparse"
)

// wrongNumbers are no Gaussian integers.
func wrongNumbers() []complex128 {
	var list []complex128
	for _, p := range []float64{math.Copysign(0, -1), 0.5, -1.5, 1 << 53, -(1 << 53), 1e300, math.Inf(1), math.Inf(-1), math.NaN()} {
		list = append(list, complex(p, 0), complex(0, p), complex(1, p), complex(p, p))
	}
	return list
}

// A wrong is a state that dense.Check refuses, with its error.
type wrong struct {
	s api.State
	e api.Errno
}

// wrongStates are those with one fault, and with two: the form's comes first, then the elements', then the one form's.
func wrongStates() []wrong {
	bad := whole(0.5)
	ten, eleven := make([]api.Ring, 1<<10), make([]api.Ring, 1<<11)
	ten[7], eleven[7] = whole(1), whole(1)
	list := []wrong{
		{api.State{}, api.ErrState},
		{api.State{N: 0, Amps: []api.Ring{whole(1), whole(0)}}, api.ErrState},
		{api.State{N: 1, Amps: []api.Ring{whole(1)}}, api.ErrState},
		{api.State{N: 1, Amps: []api.Ring{whole(1), whole(0), whole(0)}}, api.ErrState},
		{api.State{N: 2}, api.ErrState},
		{api.State{N: 10, Amps: ten[:1023]}, api.ErrState},
		{api.State{N: 10, Amps: eleven[:1025]}, api.ErrState},
		{api.State{N: 11, Amps: eleven}, api.ErrState},
		{api.State{N: -1, Amps: []api.Ring{whole(1)}}, api.ErrState},
		{api.State{N: math.MinInt, Amps: []api.Ring{whole(1)}}, api.ErrState},
		{api.State{N: math.MaxInt, Amps: []api.Ring{whole(1)}}, api.ErrState},
		{api.State{N: 64}, api.ErrState},
		{numbers(-1, 1, 0), api.ErrState},
		{numbers(61, 1, 0), api.ErrState},
		{numbers(math.MinInt, 1, 0), api.ErrState},
		{numbers(math.MaxInt, 1, 0), api.ErrState},
		// not in one form
		{numbers(1, 2, 0), api.ErrState},
		{numbers(1, 0), api.ErrState},
		{numbers(60, 0, 0), api.ErrState},
		{numbers(7, 1+1i, 2, 0, 3-1i), api.ErrState},
		{state(60, element(0, 1-1i), element(2, 3+5i)), api.ErrState},
		{api.State{N: 10, K: 1, Amps: make([]api.Ring, 1<<10)}, api.ErrState},
		// a wrong element alone, beside a state that isn't in its one form, and beside a fault of the form
		{state(0, bad), api.ErrWhole},
		{state(1, whole(2), bad), api.ErrWhole},
		{state(61, bad, whole(0)), api.ErrState},
		{api.State{N: 1, Amps: []api.Ring{bad}}, api.ErrState},
	}
	for _, a := range wrongNumbers() {
		list = append(list, wrong{state(0, element(a, 0)), api.ErrWhole}, wrong{state(0, whole(1), element(0, a)), api.ErrWhole}, wrong{state(3, element(a, 1), whole(1), whole(0), whole(0)), api.ErrWhole})
	}
	last := slices.Clone(ten)
	last[1023].B = complex(0, math.NaN())
	return append(list, wrong{api.State{N: 10, Amps: last}, api.ErrWhole})
}

// P14.1: From of what dense.Check refuses.
func TestWrongStates(t *testing.T) {
	for _, w := range wrongStates() {
		if m, e := sparse.From(w.s); m != nil || e != w.e || e != dense.Check(w.s) {
			t.Errorf("From(%v): %v, %d, not %d", few(w.s), m, e, w.e)
		}
	}
}

// P14.1: the errors of Apply, and their order; the map is as before.
func TestWrongGates(t *testing.T) {
	many := make([]int, 1<<20)
	for _, c := range []struct {
		n      int
		name   string
		qubits []int
		e      api.Errno
	}{
		{2, "q", []int{0}, api.ErrGate},
		{2, "", nil, api.ErrGate},
		{2, "H", []int{0}, api.ErrGate},
		{2, "h ", []int{0}, api.ErrGate},
		{2, "measure", []int{0}, api.ErrGate},
		{2, "q", []int{-1}, api.ErrGate},
		{2, "q", []int{0, 0}, api.ErrGate},
		{2, "q", many, api.ErrGate},
		{2, "h", nil, api.ErrArity},
		{2, "h", []int{}, api.ErrArity},
		{2, "h", []int{0, 1}, api.ErrArity},
		{2, "h", []int{5, 5}, api.ErrArity},
		{2, "h", many, api.ErrArity},
		{2, "cx", []int{0}, api.ErrArity},
		{2, "cx", []int{-1}, api.ErrArity},
		{2, "cx", []int{0, 1, 2}, api.ErrArity},
		{3, "ccx", []int{0, 1}, api.ErrArity},
		{3, "ccx", []int{0, 1, 2, 3}, api.ErrArity},
		{3, "cswap", []int{1, 1}, api.ErrArity},
		{2, "h", []int{-1}, api.ErrArg},
		{2, "h", []int{2}, api.ErrArg},
		{2, "h", []int{64}, api.ErrArg},
		{2, "h", []int{math.MinInt}, api.ErrArg},
		{2, "h", []int{math.MaxInt}, api.ErrArg},
		{10, "h", []int{10}, api.ErrArg},
		{2, "cx", []int{0, 2}, api.ErrArg},
		{2, "cx", []int{2, 2}, api.ErrArg},
		{2, "cx", []int{-1, -1}, api.ErrArg},
		{3, "ccx", []int{0, 0, 3}, api.ErrArg},
		{3, "cswap", []int{3, 1, 1}, api.ErrArg},
		{0, "h", []int{0}, api.ErrArg},
		{0, "h", nil, api.ErrArity},
		{0, "none", nil, api.ErrGate},
		{1, "cx", []int{0, 1}, api.ErrArg},
		{1, "cx", []int{0, 0}, api.ErrSame},
		{2, "cx", []int{1, 1}, api.ErrSame},
		{3, "ccx", []int{0, 0, 1}, api.ErrSame},
		{3, "ccx", []int{0, 1, 0}, api.ErrSame},
		{3, "ccx", []int{2, 1, 1}, api.ErrSame},
		{10, "ccz", []int{9, 9, 9}, api.ErrSame},
		{2, "h", []int{1}, api.OK},
		{10, "h", []int{9}, api.OK},
		{2, "cx", []int{1, 0}, api.OK},
		{3, "ccx", []int{2, 0, 1}, api.OK},
	} {
		w := &twin{m: made(t, c.n)}
		w.s, _ = dense.Zero(c.n)
		if e := w.apply(t, c.name, c.qubits); e != c.e {
			t.Errorf("%s on %d qubits of %d: %d, not %d", c.name, len(c.qubits), c.n, e, c.e)
		}
	}
}

// P14.1: an error of the gate comes ahead of ErrBig.
func TestGateAheadOfSize(t *testing.T) {
	w := twinOf(t, numbers(60, top, top))
	for _, c := range []struct {
		name   string
		qubits []int
		e      api.Errno
	}{{"none", []int{0}, api.ErrGate}, {"h", nil, api.ErrArity}, {"h", []int{1}, api.ErrArg}, {"ch", []int{0, 0}, api.ErrSame}, {"h", []int{0}, api.ErrBig}} {
		if e := w.apply(t, c.name, c.qubits); e != c.e {
			t.Errorf("%s on %v: %d, not %d", c.name, c.qubits, e, c.e)
		}
	}
}

// P14.1: sums and doubles at MaxPart, and one beyond it; what is refused leaves the map as it was.
func TestSizes(t *testing.T) {
	const half = 1 << 52
	for _, c := range []struct {
		name   string
		qubits []int
		old    api.State
		e      api.Errno
	}{
		{"h", []int{0}, numbers(0, top, 0), api.OK},
		{"h", []int{0}, numbers(0, top-1, 1), api.OK},
		{"h", []int{0}, numbers(0, top, 1), api.ErrBig},
		{"h", []int{0}, numbers(0, 1, top), api.ErrBig},
		{"h", []int{0}, numbers(0, -top, 1), api.ErrBig}, // the difference
		{"h", []int{0}, numbers(0, half, half-1), api.OK},
		{"h", []int{0}, numbers(0, half, half), api.ErrBig},
		{"h", []int{0}, numbers(0, top*1i, 1), api.OK},
		{"h", []int{0}, numbers(0, top*1i, 1i), api.ErrBig},
		{"h", []int{0}, state(0, element(0, top), element(0, -1)), api.ErrBig},
		{"h", []int{2}, numbers(0, 1, 2, 3, top, 4, 5, 6, -1), api.ErrBig}, // one sum of many
		{"v", []int{0}, numbers(0, top, 1i), api.ErrBig},
		{"v", []int{0}, numbers(0, top, 1), api.OK},
		{"vdg", []int{0}, numbers(0, top, -1i), api.ErrBig},
		// what isn't halved is doubled
		{"ch", []int{0, 1}, numbers(0, top, 0, 0, 0), api.OK},
		{"ch", []int{0, 1}, numbers(0, half+(half-1)*1i, 0, 0, 0), api.OK},
		{"ch", []int{0, 1}, numbers(0, half+half*1i, 0, 0, 0), api.ErrBig},
		{"ch", []int{0, 1}, numbers(0, 0, 0, half-half*1i, 0), api.ErrBig},
		{"ch", []int{0, 1}, state(0, element(0, half+half*1i), whole(0), whole(0), whole(0)), api.ErrBig},
		{"ch", []int{0, 1}, numbers(0, 0, half+half*1i, 0, 0), api.OK}, // the control is 1: no double
		{"ch", []int{1, 0}, numbers(0, 0, half+half*1i, 0, 0), api.ErrBig},
		{"ch", []int{0, 1}, numbers(0, 0, top, 0, 1), api.ErrBig},
		// no sum and no double in gates that don't halve
		{"x", []int{0}, numbers(60, top-top*1i, top), api.OK},
		{"y", []int{0}, state(60, element(top, -top), element(-top*1i, 0)), api.OK},
		{"ccx", []int{0, 1, 2}, numbers(0, top, -top, top*1i, top, top, -top, top, -top), api.OK},
	} {
		if e := twinOf(t, c.old).apply(t, c.name, c.qubits); e != c.e {
			t.Errorf("%s on %v of %v: %d, not %d", c.name, c.qubits, c.old, e, c.e)
		}
	}
}

// P14.1: K above MaxPower ahead of the one form, and in it.
func TestPowersAtTheBound(t *testing.T) {
	for _, c := range []struct {
		name   string
		qubits []int
		old    api.State
		e      api.Errno
		k      int
	}{
		{"h", []int{0}, numbers(59, 1, 0), api.OK, 60},
		{"h", []int{0}, numbers(60, 1, 0), api.ErrBig, 60},
		{"h", []int{0}, numbers(60, 0, 1), api.ErrBig, 60},
		{"h", []int{0}, numbers(60, 1, 1), api.OK, 59},  // 2 and 0 over 61, halved twice
		{"h", []int{0}, numbers(60, 1, 1i), api.OK, 60}, // 1+i and 1-i over 61, halved once
		{"h", []int{0}, numbers(60, 2, 1), api.ErrBig, 60},
		{"v", []int{0}, numbers(60, 1, 0), api.ErrBig, 60},
		{"v", []int{0}, numbers(60, 1, 1), api.OK, 60},
		{"vdg", []int{0}, numbers(59, 0, 1), api.OK, 60},
		{"ch", []int{0, 1}, numbers(60, 1, 0, 0, 0), api.OK, 60}, // doubled and halved again
		{"ch", []int{0, 1}, numbers(60, 1, 1, 0, 0), api.ErrBig, 60},
		{"x", []int{0}, numbers(60, 1, 0), api.OK, 60},
		{"cswap", []int{0, 1, 2}, numbers(60, 0, 0, 0, 1, 0, 0, 0, 0), api.OK, 60},
	} {
		w := twinOf(t, c.old)
		if e := w.apply(t, c.name, c.qubits); e != c.e || w.m.Power() != c.k {
			t.Errorf("%s on %v of %v: %d over the power %d, not %d over %d", c.name, c.qubits, c.old, e, w.m.Power(), c.e, c.k)
		}
	}
}

// P14.1: weights whose P is MaxPart, and beyond it; P is looked at ahead of the one form.
func TestWeightsAtTheBound(t *testing.T) {
	const great = 94906265                                                                  // the greatest number whose square is below MaxPart
	full := api.State{N: 10, Amps: slices.Repeat([]api.Ring{element(1<<21, 1<<21)}, 1<<10)} // 2^53 in all
	below := api.State{N: 10, Amps: slices.Clone(full.Amps)}
	below.Amps[1023].B = 1<<21 - 1
	for _, c := range []struct {
		s api.State
		e api.Errno
	}{
		{numbers(0, great, 0), api.OK},
		{numbers(0, 0, great), api.OK},
		{numbers(0, great+1, 0), api.ErrBig},
		{numbers(0, great+1, 1), api.ErrBig}, // where the qubit is 1 there is little
		{numbers(0, 1, great+1), api.ErrBig},
		{numbers(0, great, great), api.ErrBig},
		{numbers(60, great, 1), api.OK},
		{numbers(1, 67108865, 67108865), api.ErrBig}, // halved it would fit
		{numbers(1, top, 1), api.ErrBig},
		{atTop(0, top), api.OK},
		{atTop(60, top), api.OK},
		{atTop(0, top+1), api.ErrBig},
		{atTop(1, top+1), api.ErrBig}, // so would this
		{atTop(60, top+1), api.ErrBig},
		{full, api.ErrBig},
		{below, api.OK},
	} {
		w := twinOf(t, c.s)
		for q := range c.s.N {
			if e := w.weights(t, q); e != c.e {
				t.Errorf("Weights of %v at %d: %d, not %d", few(c.s), q, e, c.e)
			}
		}
		for _, q := range []int{-1, c.s.N} {
			if e := w.weights(t, q); e != api.ErrArg {
				t.Errorf("Weights of %v at %d: %d", few(c.s), q, e)
			}
		}
	}
	if _, all, e := from(t, atTop(0, top)).Weights(0); all.P != top || e != api.OK {
		t.Errorf("the weight at the bound: %v, %d", all, e)
	}
}

// atTop is a state of 3 qubits whose P is so much: its elements are numbers whose squares add up to that, the greatest first. That one is odd, so that no k is too great for the one form.
func atTop(k int, p int64) api.State {
	list := make([]complex128, 8)
	for j := range list {
		r := int64(math.Sqrt(float64(p)))
		for r*r > p {
			r--
		}
		p -= r * r
		list[j] = complex(float64(r), 0)
	}
	return numbers(k, list...)
}

// P14.1: each qubit and bit that there is, and those beside them.
func TestPlaces(t *testing.T) {
	for n := range 11 {
		s := api.State{N: n, Amps: slices.Repeat([]api.Ring{whole(1)}, 1<<n)}
		for _, q := range []int{math.MinInt, -64, -1, 0, 1, n - 1, n, n + 1, 63, 64, math.MaxInt} {
			right := q >= 0 && q < n
			if e := twinOf(t, s).weights(t, q); (e == api.OK) != right || !right && e != api.ErrArg {
				t.Errorf("Weights of %d qubits at %d: %d", n, q, e)
			}
			for _, bit := range []int{math.MinInt, -1, 0, 1, 2, 3, math.MaxInt} {
				right := right && (bit == 0 || bit == 1)
				if e := twinOf(t, s).project(t, q, bit); (e == api.OK) != right || !right && e != api.ErrArg {
					t.Errorf("Project of %d qubits at %d onto %d: %d", n, q, bit, e)
				}
			}
		}
	}
}

// P14.1: a part of noughts alone is refused; a wrong argument comes first; the map is as before.
func TestNullParts(t *testing.T) {
	for n := 1; n <= 4; n++ {
		for index := range uint64(1) << n {
			b, _ := dense.Basis(n, index)
			w := twinOf(t, b)
			for q := range n {
				bit := int(index >> q & 1)
				if e := w.project(t, q, 1-bit); e != api.ErrNull {
					t.Errorf("Project of %d at %d onto %d: %d", index, q, 1-bit, e)
				}
				if e := w.project(t, q, bit); e != api.OK {
					t.Errorf("Project of %d at %d onto %d: %d", index, q, bit, e)
				}
			}
			if e, f := w.project(t, n, 0), w.project(t, 0, 2); e != api.ErrArg || f != api.ErrArg {
				t.Errorf("Project of %d onto nothing: %d, %d", index, e, f)
			}
			is(t, w.m, b)
		}
	}
}
