package dense_test

import (
	"math"
	"slices"
	"testing"

	"cubit/api"
	"cubit/dense"
)

var (
	negative = math.Copysign(0, -1)
	infinite = math.Inf(1)
	none     = math.NaN()
)

// wrongNumbers are no Gaussian integers.
func wrongNumbers() []complex128 {
	var list []complex128
	for _, p := range []float64{negative, 0.5, -1.5, 1 << 53, -(1 << 53), 1e300, infinite, -infinite, none} {
		list = append(list, complex(p, 0), complex(0, p), complex(1, p), complex(p, p))
	}
	return list
}

// A wrong is a state that Check refuses, with its error.
type wrong struct {
	s api.State
	e api.Errno
}

// wrongStates are those with one fault, and with two: the form's comes first, then the elements', then the one form's.
func wrongStates() []wrong {
	bad := whole(0.5)
	ten, eleven := make([]api.Ring, 1<<10), make([]api.Ring, 1<<11)
	ten[7], eleven[7] = whole(1), whole(1)
	list := []wrong{
		{api.State{}, api.ErrState},
		{api.State{N: 0, Amps: []api.Ring{}}, api.ErrState},
		{api.State{N: 0, Amps: []api.Ring{whole(1), whole(0)}}, api.ErrState},
		{api.State{N: 1, Amps: []api.Ring{whole(1)}}, api.ErrState},
		{api.State{N: 1, Amps: []api.Ring{whole(1), whole(0), whole(0)}}, api.ErrState},
		{api.State{N: 1, Amps: []api.Ring{whole(1), whole(0), whole(0), whole(0)}}, api.ErrState},
		{api.State{N: 2, Amps: nil}, api.ErrState},
		{api.State{N: 10, Amps: ten[:1023]}, api.ErrState},
		{api.State{N: 10, Amps: eleven[:1025]}, api.ErrState},
		{api.State{N: 10, Amps: eleven}, api.ErrState},
		{api.State{N: 11, Amps: eleven}, api.ErrState},
		{api.State{N: 11, Amps: ten}, api.ErrState},
		{api.State{N: 11}, api.ErrState},
		{api.State{N: -1}, api.ErrState},
		{api.State{N: -1, Amps: []api.Ring{whole(1)}}, api.ErrState},
		{api.State{N: math.MinInt, Amps: []api.Ring{whole(1)}}, api.ErrState},
		{api.State{N: math.MaxInt, Amps: []api.Ring{whole(1)}}, api.ErrState},
		{api.State{N: 63}, api.ErrState},
		{api.State{N: 64}, api.ErrState}, // 1 shifted so far is 0, as many as there are
		{numbers(-1, 1, 0), api.ErrState},
		{numbers(61, 1, 0), api.ErrState},
		{numbers(math.MinInt, 1, 0), api.ErrState},
		{numbers(math.MaxInt, 1, 0), api.ErrState},
		{numbers(-1, 0, 0), api.ErrState},
		// not in one form
		{numbers(1, 2, 0), api.ErrState},
		{numbers(1, 0), api.ErrState},
		{numbers(60, 0, 0), api.ErrState},
		{numbers(1, 0, 0, 0, 0), api.ErrState},
		{numbers(7, 1+1i, 2, 0, 3-1i), api.ErrState},
		{state(60, element(0, 1-1i), element(2, 3+5i)), api.ErrState},
		{api.State{N: 10, K: 1, Amps: make([]api.Ring, 1<<10)}, api.ErrState},
		// a wrong element alone, and beside a state that isn't in its one form
		{state(0, bad), api.ErrWhole},
		{state(0, whole(1), element(0, -0.5)), api.ErrWhole},
		{state(1, whole(2), bad), api.ErrWhole},
		{state(1, bad, whole(2)), api.ErrWhole},
		{state(60, whole(0), element(0, complex(negative, 0))), api.ErrWhole},
		// a wrong element beside a fault of the form
		{state(61, bad, whole(0)), api.ErrState},
		{state(-1, bad, whole(0)), api.ErrState},
		{api.State{N: 1, Amps: []api.Ring{bad}}, api.ErrState},
		{api.State{N: 1, Amps: []api.Ring{bad, bad, bad}}, api.ErrState},
		{api.State{N: -1, Amps: []api.Ring{bad}}, api.ErrState},
		{api.State{N: 11, Amps: slices.Repeat([]api.Ring{bad}, 1<<11)}, api.ErrState},
	}
	for _, a := range wrongNumbers() {
		list = append(list, wrong{state(0, element(a, 0)), api.ErrWhole}, wrong{state(0, whole(1), element(0, a)), api.ErrWhole}, wrong{state(3, element(a, 1), whole(1), whole(0), whole(0)), api.ErrWhole})
	}
	last := slices.Clone(ten)
	last[1023].B = complex(0, none)
	return append(list, wrong{api.State{N: 10, Amps: last}, api.ErrWhole}, wrong{api.State{N: 10, K: 1, Amps: last}, api.ErrWhole})
}

// P13.1: what Check takes at the limits.
func TestCheckTakes(t *testing.T) {
	ten := make([]api.Ring, 1<<10)
	ten[1023] = whole(1)
	for _, s := range []api.State{
		numbers(0, 1), numbers(0, 0), numbers(60, 1), numbers(0, 2), numbers(0, 2, 4), numbers(60, 2, 1), numbers(1, 0, 1), numbers(1, 1, 2), numbers(0, 0, 0),
		state(60, element(top, 0), element(0, -top)), state(0, element(top-top*1i, top*1i-top)), state(1, element(2, 1), whole(2)), state(1, whole(2), element(0, 1i)),
		{N: 10, Amps: ten}, {N: 10, K: 60, Amps: ten}, {N: 10, Amps: make([]api.Ring, 1<<10)},
	} {
		if e := dense.Check(s); e != api.OK {
			t.Errorf("Check(%v): %d", few(s), e)
		}
	}
}

// P13.1: what Check refuses, every call refuses, ahead of all else.
func TestWrongStates(t *testing.T) {
	empty := circuitOf(1)
	for _, w := range wrongStates() {
		if e := dense.Check(w.s); e != w.e {
			t.Errorf("Check(%v): %d, not %d", few(w.s), e, w.e)
		}
		for _, qubits := range [][]int{{0}, {-1}, nil, {0, 0}} {
			for _, name := range []string{"h", "cx", "none"} {
				s, e := dense.Apply(w.s, name, qubits)
				refused(t, "Apply", s, e, w.e)
			}
		}
		for _, q := range []int{0, -1, 10} {
			if one, all, e := dense.Weights(w.s, q); one != (api.Root{}) || all != (api.Root{}) || e != w.e {
				t.Errorf("Weights(%v, %d): %v, %v, %d", few(w.s), q, one, all, e)
			}
			for _, bit := range []int{0, 1, 2} {
				s, e := dense.Project(w.s, q, bit)
				refused(t, "Project", s, e, w.e)
			}
		}
		for _, index := range []uint64{0, 1, math.MaxUint64} {
			if a, e := dense.Amp(w.s, index); a != (api.Amp{}) || e != w.e {
				t.Errorf("Amp(%v, %d): %v, %d", few(w.s), index, a, e)
			}
		}
		if r, e := dense.Weight(w.s); r != (api.Root{}) || e != w.e {
			t.Errorf("Weight(%v): %v, %d", few(w.s), r, e)
		}
		for _, c := range []api.Circuit{empty, {Qubits: -1}, circuitOf(1, op("none", 0)), circuitOf(1, api.Op{Kind: api.OpReset, Qubits: []int{0}}), circuitOf(2)} {
			s, e := dense.Run(w.s, c)
			refused(t, "Run", s, e, w.e)
		}
	}
}

// P13.1: the errors of Apply, and their order.
func TestWrongGates(t *testing.T) {
	many := make([]int, 1<<20)
	for _, c := range []struct {
		n      int
		name   string
		qubits []int
		e      api.Errno
	}{
		{2, "q", []int{0}, api.ErrGate},
		{2, "", []int{0}, api.ErrGate},
		{2, "", nil, api.ErrGate},
		{2, "H", []int{0}, api.ErrGate},
		{2, "h ", []int{0}, api.ErrGate},
		{2, "cxx", []int{0, 1}, api.ErrGate},
		{2, "measure", []int{0}, api.ErrGate},
		{2, "q", []int{-1}, api.ErrGate},
		{2, "q", []int{0, 0}, api.ErrGate},
		{2, "q", many, api.ErrGate},
		{2, "h", nil, api.ErrArity},
		{2, "h", []int{}, api.ErrArity},
		{2, "h", []int{0, 1}, api.ErrArity},
		{2, "h", []int{5, 5}, api.ErrArity},
		{2, "h", []int{0, 0}, api.ErrArity},
		{2, "h", many, api.ErrArity},
		{2, "cx", []int{0}, api.ErrArity},
		{2, "cx", []int{-1}, api.ErrArity},
		{2, "cx", []int{0, 1, 2}, api.ErrArity},
		{3, "ccx", []int{0, 1}, api.ErrArity},
		{3, "ccx", []int{0, 1, 2, 3}, api.ErrArity},
		{3, "cswap", []int{1, 1}, api.ErrArity},
		{2, "h", []int{-1}, api.ErrArg},
		{2, "h", []int{2}, api.ErrArg},
		{2, "h", []int{64}, api.ErrArg},
		{2, "h", []int{math.MinInt}, api.ErrArg},
		{2, "h", []int{math.MaxInt}, api.ErrArg},
		{10, "h", []int{10}, api.ErrArg},
		{2, "cx", []int{0, 2}, api.ErrArg},
		{2, "cx", []int{2, 0}, api.ErrArg},
		{2, "cx", []int{2, 2}, api.ErrArg},
		{2, "cx", []int{-1, -1}, api.ErrArg},
		{3, "ccx", []int{0, 0, 3}, api.ErrArg},
		{3, "ccx", []int{0, 0, -1}, api.ErrArg},
		{3, "cswap", []int{3, 1, 1}, api.ErrArg},
		{0, "h", []int{0}, api.ErrArg},
		{0, "cx", []int{0, 0}, api.ErrArg},
		{0, "h", nil, api.ErrArity},
		{0, "none", nil, api.ErrGate},
		{1, "cx", []int{0, 1}, api.ErrArg},
		{1, "cx", []int{0, 0}, api.ErrSame},
		{2, "cx", []int{1, 1}, api.ErrSame},
		{3, "ccx", []int{0, 0, 1}, api.ErrSame},
		{3, "ccx", []int{0, 1, 0}, api.ErrSame},
		{3, "ccx", []int{2, 1, 1}, api.ErrSame},
		{10, "ccz", []int{9, 9, 9}, api.ErrSame},
		{2, "h", []int{1}, api.OK},
		{10, "h", []int{9}, api.OK},
		{2, "cx", []int{1, 0}, api.OK},
		{3, "ccx", []int{2, 0, 1}, api.OK},
	} {
		s, e := dense.Apply(zero(t, c.n), c.name, c.qubits)
		if c.e == api.OK {
			taken(t, s, e)
			continue
		}
		refused(t, c.name, s, e, c.e)
	}
}

// P13.1: an error of the gate comes ahead of ErrBig.
func TestGateAheadOfSize(t *testing.T) {
	far := numbers(60, top, top)
	for _, c := range []struct {
		name   string
		qubits []int
		e      api.Errno
	}{{"none", []int{0}, api.ErrGate}, {"h", nil, api.ErrArity}, {"h", []int{1}, api.ErrArg}, {"ch", []int{0, 0}, api.ErrSame}, {"h", []int{0}, api.ErrBig}} {
		s, e := dense.Apply(far, c.name, c.qubits)
		refused(t, c.name, s, e, c.e)
	}
}

// P13.1: sums and doubles at MaxPart, and one beyond it.
func TestSizes(t *testing.T) {
	const half = 1 << 52
	for _, c := range []struct {
		name   string
		qubits []int
		old    api.State
		e      api.Errno
	}{
		{"h", []int{0}, numbers(0, top, 0), api.OK},
		{"h", []int{0}, numbers(0, top-1, 1), api.OK},
		{"h", []int{0}, numbers(0, top, 1), api.ErrBig},
		{"h", []int{0}, numbers(0, 1, top), api.ErrBig},
		{"h", []int{0}, numbers(0, -top, 1), api.ErrBig}, // the difference
		{"h", []int{0}, numbers(0, half, half-1), api.OK},
		{"h", []int{0}, numbers(0, half, half), api.ErrBig},
		{"h", []int{0}, numbers(0, top*1i, 1), api.OK},
		{"h", []int{0}, numbers(0, top*1i, 1i), api.ErrBig},
		{"h", []int{0}, state(0, element(0, top), element(1, 0)), api.OK},
		{"h", []int{0}, state(0, element(0, top), element(0, -1)), api.ErrBig},
		{"h", []int{0}, state(0, element(0, top*1i), element(0, 1i)), api.ErrBig},
		{"v", []int{0}, numbers(0, top, 1i), api.ErrBig},
		{"v", []int{0}, numbers(0, top, -1i), api.ErrBig},
		{"v", []int{0}, numbers(0, top, 1), api.OK},
		{"vdg", []int{0}, numbers(0, top, 1i), api.ErrBig},
		{"vdg", []int{0}, numbers(0, top, 1), api.OK},
		// what isn't halved is doubled
		{"ch", []int{0, 1}, numbers(0, top, 0, 0, 0), api.OK},
		{"ch", []int{0, 1}, numbers(0, half+(half-1)*1i, 0, 0, 0), api.OK},
		{"ch", []int{0, 1}, numbers(0, half+half*1i, 0, 0, 0), api.ErrBig},
		{"ch", []int{0, 1}, numbers(0, 0, 0, half-half*1i, 0), api.ErrBig},
		{"ch", []int{0, 1}, state(0, element(0, half+half*1i), whole(0), whole(0), whole(0)), api.ErrBig},
		{"ch", []int{0, 1}, state(0, element(0, half-(half-1)*1i), whole(0), whole(0), whole(0)), api.OK},
		{"ch", []int{0, 1}, numbers(0, 0, half+half*1i, 0, 0), api.OK}, // the control is 1: no double
		{"ch", []int{1, 0}, numbers(0, 0, half+half*1i, 0, 0), api.ErrBig},
		{"ch", []int{0, 1}, numbers(0, 0, top, 0, 1), api.ErrBig},
		{"ch", []int{0, 1}, numbers(0, 0, top, 1, 0), api.OK},
		// no sum and no double in gates that don't halve
		{"x", []int{0}, numbers(60, top-top*1i, top), api.OK},
		{"y", []int{0}, state(60, element(top, -top), element(-top*1i, 0)), api.OK},
		{"w", []int{0}, state(0, element(top, -top), element(-top*1i, top+top*1i)), api.OK},
		{"ccx", []int{0, 1, 2}, numbers(0, top, -top, top*1i, top, top, -top, top, -top), api.OK},
	} {
		want := applied(c.old, c.name, c.qubits)
		s, e := dense.Apply(c.old, c.name, c.qubits)
		if e != c.e || want.e != c.e || !same(s, want.s) {
			t.Errorf("%s on %v of %v: %v, %d, not %d", c.name, c.qubits, c.old, s, e, c.e)
		}
	}
}

// P13.1: K above MaxPower ahead of the one form, and in it.
func TestPowersAtTheBound(t *testing.T) {
	for _, c := range []struct {
		name   string
		qubits []int
		old    api.State
		e      api.Errno
		k      int
	}{
		{"h", []int{0}, numbers(59, 1, 0), api.OK, 60},
		{"h", []int{0}, numbers(60, 1, 0), api.ErrBig, 0},
		{"h", []int{0}, numbers(60, 0, 1), api.ErrBig, 0},
		{"h", []int{0}, numbers(60, 1, 1), api.OK, 59},           // 2 and 0 over 61, halved twice
		{"h", []int{0}, numbers(60, 3, 1), api.OK, 59},           // 4 and 2 over 61
		{"h", []int{0}, numbers(60, 1, 1i), api.OK, 60},          // 1+i and 1-i over 61, halved once
		{"h", []int{0}, numbers(60, 2, 1), api.ErrBig, 0},        // 3 and 1
		{"v", []int{0}, numbers(60, 1, 0), api.ErrBig, 0},        // w and w^7
		{"v", []int{0}, numbers(60, 1, 1), api.OK, 60},           // w + w^7 is the square root of 2
		{"vdg", []int{0}, numbers(59, 0, 1), api.OK, 60},         //
		{"ch", []int{0, 1}, numbers(60, 1, 0, 0, 0), api.OK, 60}, // doubled and halved again
		{"ch", []int{0, 1}, numbers(60, 1, 1, 0, 0), api.ErrBig, 0},
		{"ch", []int{0, 1}, numbers(60, 1, 1, 0, 1), api.OK, 60},
		{"x", []int{0}, numbers(60, 1, 0), api.OK, 60},
		{"t", []int{0}, numbers(60, 1, 1), api.OK, 60},
		{"cswap", []int{0, 1, 2}, numbers(60, 0, 0, 0, 1, 0, 0, 0, 0), api.OK, 60},
	} {
		s, e := dense.Apply(c.old, c.name, c.qubits)
		if e != c.e || s.K != c.k || e != api.OK && !same(s, api.State{}) {
			t.Errorf("%s on %v of %v: %v, %d, not K %d, %d", c.name, c.qubits, c.old, s, e, c.k, c.e)
		}
		hold(t, c.name, c.old, s, e, applied(c.old, c.name, c.qubits))
	}
}

// squares are numbers whose squares add up to n, the greatest first.
func squares(n int64) []int64 {
	var list []int64
	for n > 0 {
		r := int64(math.Sqrt(float64(n)))
		for r*r > n {
			r--
		}
		list = append(list, r)
		n -= r * r
	}
	return list
}

// heavy is a state of n qubits whose P is so much, its parts laid out from an element on.
func heavy(n int, p int64, from int) api.State {
	s := api.State{N: n, Amps: make([]api.Ring, 1<<n)}
	for j, part := range squares(p) {
		r := powersOf(s.Amps[(from+j/4)%len(s.Amps)])
		r[j%4] = part
		s.Amps[(from+j/4)%len(s.Amps)] = r.element()
	}
	return s
}

// P13.1: weights whose P is MaxPart, and one more.
func TestWeightAtTheBound(t *testing.T) {
	for n := 1; n <= 10; n++ {
		for from := range 2 {
			s := heavy(n, top, from*(1<<n-1))
			if w, e := dense.Weight(s); w.P != top || w.K != 0 || e != api.OK {
				t.Errorf("Weight(%v): %v, %d", few(s), w, e)
			}
			holdParts(t, s)
			s = heavy(n, top+1, from*(1<<n-1))
			if w, e := dense.Weight(s); w != (api.Root{}) || e != api.ErrBig {
				t.Errorf("Weight(%v): %v, %d", few(s), w, e)
			}
			holdParts(t, s)
		}
	}
	// many elements, each far below the bound, and all together at it
	list := slices.Repeat([]api.Ring{whole(1 << 21)}, 1<<10) // 2^42 each, 2^52 in all
	s := api.State{N: 10, Amps: list}
	if w, e := dense.Weight(s); w != (api.Root{P: 1 << 52}) || e != api.OK {
		t.Errorf("Weight: %v, %d", w, e)
	}
	for x := range list {
		list[x].B = 1 << 21 // another 2^52: one more than MaxPart
	}
	if w, e := dense.Weight(s); w != (api.Root{}) || e != api.ErrBig {
		t.Errorf("Weight: %v, %d", w, e)
	}
	list[1023].B = (1 << 21) - 1
	if w, e := dense.Weight(s); w.P != 1<<53-1<<22+1 || e != api.OK {
		t.Errorf("Weight: %v, %d", w, e)
	}
	// P is looked at ahead of the one form: over 2 it would fit
	for _, s := range []api.State{numbers(1, 94906266, 1), numbers(1, 67108865, 67108865), numbers(60, 67108864, 67108863, 16384, 0), numbers(2, 67108864, 67108863, 11585, 0)} {
		want, f := weighed(s, all)
		if w, e := dense.Weight(s); w != want || e != f {
			t.Errorf("Weight(%v): %v, %d", s, w, e)
		}
	}
	for _, k := range []int{1, 2, 59, 60} {
		for n := 1; n <= 3; n++ {
			for _, p := range []int64{top, top + 1, top + 3} { // over a power of 2 the last two could fit
				s := heavy(n, p, 0)
				s.K = k
				if w, e := dense.Weight(s); (e == api.OK) != (p == top) || e != api.OK && (w != (api.Root{}) || e != api.ErrBig) {
					t.Errorf("Weight(%v): %v, %d", s, w, e)
				}
				holdParts(t, s)
			}
		}
	}
	s = state(1, whole(94906265), element(0, 1)) // the greatest square below MaxPart, and 1
	if w, e := dense.Weight(s); w != (api.Root{P: (94906265*94906265 + 1) / 2}) || e != api.OK {
		t.Errorf("Weight(%v): %v, %d", s, w, e)
	}
	// as great as can be, everywhere
	s = api.State{N: 10, K: 60, Amps: slices.Repeat([]api.Ring{element(top+top*1i-1, top)}, 1<<10)}
	if w, e := dense.Weight(s); w != (api.Root{}) || e != api.ErrBig {
		t.Errorf("Weight of the greatest: %v, %d", w, e)
	}
}

// P13.1: Weights of a qubit whose part is light, in a state that is too heavy: refused; a wrong qubit comes first.
func TestWeightsAtTheBound(t *testing.T) {
	s := numbers(0, 94906266, 1)
	if one, all, e := dense.Weights(s, 0); one != (api.Root{}) || all != (api.Root{}) || e != api.ErrBig {
		t.Errorf("Weights: %v, %v, %d", one, all, e)
	}
	if one, all, e := dense.Weights(s, 1); one != (api.Root{}) || all != (api.Root{}) || e != api.ErrArg {
		t.Errorf("Weights: %v, %v, %d", one, all, e)
	}
	s = numbers(0, 94906265, 0)
	want := api.Root{P: 94906265 * 94906265}
	if one, all, e := dense.Weights(s, 0); one != (api.Root{}) || all != want || e != api.OK {
		t.Errorf("Weights: %v, %v, %d", one, all, e)
	}
	s = numbers(0, 0, 94906265)
	if one, all, e := dense.Weights(s, 0); one != want || all != want || e != api.OK {
		t.Errorf("Weights: %v, %v, %d", one, all, e)
	}
}

// P13.1: each qubit, bit and index that there is, and those beside them.
func TestPlaces(t *testing.T) {
	for n := range 11 {
		s := api.State{N: n, Amps: slices.Repeat([]api.Ring{whole(1)}, 1<<n)}
		for _, q := range []int{math.MinInt, -64, -1, 0, 1, n - 1, n, n + 1, 63, 64, math.MaxInt} {
			right := q >= 0 && q < n
			one, all, e := dense.Weights(s, q)
			if right && (one != (api.Root{P: 1 << (n - 1)}) || all != (api.Root{P: 1 << n}) || e != api.OK) || !right && (one != (api.Root{}) || all != (api.Root{}) || e != api.ErrArg) {
				t.Errorf("Weights of %d qubits at %d: %v, %v, %d", n, q, one, all, e)
			}
			for _, bit := range []int{math.MinInt, -1, 0, 1, 2, 3, math.MaxInt} {
				p, e := dense.Project(s, q, bit)
				if right && (bit == 0 || bit == 1) {
					hold(t, "Project", s, p, e, projected(s, q, bit))
				} else {
					refused(t, "Project", p, e, api.ErrArg)
				}
			}
		}
		for _, index := range []uint64{0, 1<<n - 1, 1 << n, 1<<n + 1, 1 << 32, 1 << 63, math.MaxUint64} {
			a, e := dense.Amp(s, index)
			if right := index < 1<<n; right && (a != (api.Amp{R: whole(1)}) || e != api.OK) || !right && (a != (api.Amp{}) || e != api.ErrArg) {
				t.Errorf("Amp of %d qubits at %d: %v, %d", n, index, a, e)
			}
		}
	}
}

// P13.1: a part of noughts alone is refused; a wrong argument comes first.
func TestNullParts(t *testing.T) {
	for n := 1; n <= 4; n++ {
		for index := range uint64(1) << n {
			s := basis(t, n, index)
			for q := range n {
				bit := int(index >> q & 1)
				if p := project(t, s, q, bit); !same(p, s) {
					t.Errorf("Project(%v, %d, %d): %v", s, q, bit, p)
				}
				p, e := dense.Project(s, q, 1-bit)
				refused(t, "Project", p, e, api.ErrNull)
			}
			p, e := dense.Project(s, n, 0)
			refused(t, "Project", p, e, api.ErrArg)
			p, e = dense.Project(s, 0, 2)
			refused(t, "Project", p, e, api.ErrArg)
		}
	}
}

// P13.1: Phase of states that are turned by each k, and of those that aren't.
func TestPhase(t *testing.T) {
	for _, s := range []api.State{numbers(0, 1), numbers(0, 0, 1), numbers(1, 1, 1), state(3, element(1, 2), element(0, 1i), whole(0), whole(-7)), state(0, whole(0), element(top, -top*1i))} {
		for k := range 8 {
			list := listOf(s)
			for x := range list {
				list[x] = list[x].turned(k)
			}
			a := formed(s.N, s.K, list)
			if got, ok := dense.Phase(a, s); got != k || !ok {
				t.Errorf("Phase(%v, %v): %d, %v, not %d", a, s, got, ok, k)
			}
			if got, ok := dense.Phase(s, a); got != (8-k)%8 || !ok {
				t.Errorf("Phase(%v, %v): %d, %v, not %d", s, a, got, ok, (8-k)%8)
			}
		}
	}
	for _, c := range []struct{ a, b api.State }{
		{numbers(0, 1), numbers(0, 1, 0)},     // another N
		{numbers(0, 1, 0), numbers(1, 1, 0)},  // another K
		{numbers(0, 0), numbers(0, 0, 0)},     // null states of another N
		{numbers(0, 1, 0), numbers(0, 0, 1)},  // other places
		{numbers(0, 1, 0), numbers(0, 0, 0)},  // one of them null
		{numbers(0, 0, 0), numbers(0, 1, 0)},  //
		{numbers(0, 2, 0), numbers(0, 1, 0)},  // no turn makes 2 of 1
		{numbers(0, 1, 1i), numbers(0, 1, 1)}, // turned each by its own
		{numbers(0, 1, 1), numbers(0, 1, -1)}, //
		{numbers(0, 1, 1, 1, 0), numbers(0, 1, 1, 1, 1)},
		{numbers(0, 1, 1, 1, 1), numbers(0, 1, 1, 1, 0)},
		{numbers(0, 0, 1i), numbers(0, 1, 1)},
		{numbers(0, 1i, 1i), numbers(0, 0, 1)},
		// what Check refuses, the same or turned
		{numbers(1, 2, 0), numbers(1, 2, 0)},
		{numbers(61, 1, 0), numbers(61, 1, 0)},
		{numbers(0, 0.5), numbers(0, 0.5)},
		{numbers(1, 0, 0), numbers(1, 0, 0)},
		{api.State{}, api.State{}},
		{api.State{N: 1, Amps: []api.Ring{whole(1)}}, numbers(0, 1, 0)},
		{numbers(0, 1, 0), api.State{N: 1, Amps: []api.Ring{whole(1)}}},
		{numbers(0, complex(negative, 0), 1), numbers(0, 0, 1)},
		{numbers(0, 0, 1), numbers(0, complex(negative, 0), 1)},
		{numbers(0, complex(none, 0)), numbers(0, 1)},
	} {
		if k, ok := dense.Phase(c.a, c.b); k != 0 || ok {
			t.Errorf("Phase(%v, %v): %d, %v", c.a, c.b, k, ok)
		}
	}
	right := numbers(0, 1, 0)
	for _, w := range wrongStates() {
		for _, c := range [][2]api.State{{w.s, w.s}, {w.s, right}, {right, w.s}} {
			if k, ok := dense.Phase(c[0], c[1]); k != 0 || ok {
				t.Errorf("Phase(%v, %v): %d, %v", few(c[0]), few(c[1]), k, ok)
			}
		}
	}
}
