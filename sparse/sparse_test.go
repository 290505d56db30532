package sparse_test

import (
	"math"
	"slices"
	"testing"

	"cubit/api"
	"cubit/dense"
	"cubit/sparse"
)

// The functions are as the chapter has them.
var (
	_ func(int) (*sparse.Map, api.Errno)                      = sparse.New
	_ func(api.State) (*sparse.Map, api.Errno)                = sparse.From
	_ func(*sparse.Map, string, []int) api.Errno              = (*sparse.Map).Apply
	_ func(*sparse.Map, int) (one, all api.Root, e api.Errno) = (*sparse.Map).Weights
	_ func(*sparse.Map, int, int) api.Errno                   = (*sparse.Map).Project
	_ func(*sparse.Map) []api.Term                            = (*sparse.Map).Terms
	_ func(*sparse.Map) int                                   = (*sparse.Map).Power
	_ func(*sparse.Map) int                                   = (*sparse.Map).Qubits
	_ func(*sparse.Map) (api.State, api.Errno)                = (*sparse.Map).State
)

// top is the greatest part.
const top = 1<<53 - 1

func element(a, b complex128) api.Ring { return api.Ring{A: a, B: b} }

// whole is an element without w.
func whole(a complex128) api.Ring { return element(a, 0) }

// state is one of these elements, as many as they are, over the power k.
func state(k int, list ...api.Ring) api.State {
	n := 0
	for 1<<n < len(list) {
		n++
	}
	return api.State{N: n, K: k, Amps: list}
}

// numbers is a state of elements without w.
func numbers(k int, list ...complex128) api.State {
	var all []api.Ring
	for _, a := range list {
		all = append(all, whole(a))
	}
	return state(k, all...)
}

// sameNumber: the same bits, so that -0 is not 0.
func sameNumber(x, y complex128) bool {
	return math.Float64bits(real(x)) == math.Float64bits(real(y)) && math.Float64bits(imag(x)) == math.Float64bits(imag(y))
}

func sameElement(r, s api.Ring) bool { return sameNumber(r.A, s.A) && sameNumber(r.B, s.B) }

// same: are these the same states, bit by bit? (No list and an empty one are the same.)
func same(a, b api.State) bool {
	return a.N == b.N && a.K == b.K && slices.EqualFunc(a.Amps, b.Amps, sameElement)
}

func sameTerms(a, b []api.Term) bool {
	return slices.EqualFunc(a, b, func(x, y api.Term) bool { return x.Index == y.Index && sameElement(x.R, y.R) })
}

// few is a state's first elements, for a message.
func few(s api.State) api.State {
	s.Amps = s.Amps[:min(len(s.Amps), 16)]
	return s
}

// termsOf are what Terms has to tell of a state.
func termsOf(s api.State) []api.Term {
	var list []api.Term
	for x, r := range s.Amps {
		if r != (api.Ring{}) {
			list = append(list, api.Term{Index: uint64(x), R: r})
		}
	}
	return list
}

// at is a term of an element without w.
func at(index uint64, a complex128) api.Term { return api.Term{Index: index, R: whole(a)} }

func made(t *testing.T, n int) *sparse.Map {
	t.Helper()
	m, e := sparse.New(n)
	if m == nil || e != api.OK {
		t.Fatalf("New(%d): %v, %d", n, m, e)
	}
	return m
}

func from(t *testing.T, s api.State) *sparse.Map {
	t.Helper()
	m, e := sparse.From(s)
	if m == nil || e != api.OK {
		t.Fatalf("From(%v): %v, %d", few(s), m, e)
	}
	return m
}

func apply(t *testing.T, m *sparse.Map, name string, qubits ...int) {
	t.Helper()
	if e := m.Apply(name, qubits); e != api.OK {
		t.Fatalf("%s on %v: %d", name, qubits, e)
	}
}

// stateOf is what State answers.
func stateOf(t *testing.T, m *sparse.Map) api.State {
	t.Helper()
	s, e := m.State()
	if e != api.OK {
		t.Fatalf("State: %d", e)
	}
	return s
}

// is asks that the map is this state, by all that it tells.
func is(t *testing.T, m *sparse.Map, want api.State) {
	t.Helper()
	if s := stateOf(t, m); !same(s, want) {
		t.Fatalf("the map is %v, not %v", few(s), few(want))
	}
	if list := m.Terms(); !sameTerms(list, termsOf(want)) {
		t.Fatalf("the terms of %v: %v", few(want), list[:min(len(list), 16)])
	}
	if m.Power() != want.K || m.Qubits() != want.N {
		t.Fatalf("the power and the qubits of %v: %d and %d", few(want), m.Power(), m.Qubits())
	}
}

// tells asks for terms and a power.
func tells(t *testing.T, m *sparse.Map, power int, want ...api.Term) {
	t.Helper()
	if list := m.Terms(); !sameTerms(list, want) || m.Power() != power {
		t.Errorf("the terms are %v over the power %d, not %v over %d", list, m.Power(), want, power)
	}
}

func TestNumbersOfTheChapter(t *testing.T) {
	if api.ErrArg != 2 || api.ErrBig != 3 || api.ErrWhole != 20 || api.ErrGate != 80 || api.ErrArity != 111 || api.ErrSame != 113 || api.ErrState != 130 || api.ErrNull != 131 {
		t.Error("the errors are not the chapter's")
	}
	if api.MaxPart != top || api.MaxQubits != 10 || api.MaxPower != 60 {
		t.Error("the limits are not the document's")
	}
}

// The chapter's examples.
func TestExamples(t *testing.T) {
	half := api.Root{P: 1, K: 1}
	m := made(t, 2)
	apply(t, m, "h", 0)
	apply(t, m, "cx", 0, 1)
	tells(t, m, 1, at(0, 1), at(3, 1))
	if one, all, e := m.Weights(1); one != half || all != (api.Root{P: 1}) || e != api.OK {
		t.Errorf("Weights(1): %v, %v, %d", one, all, e)
	}
	if e := m.Project(1, 1); e != api.OK {
		t.Errorf("Project(1, 1): %d", e)
	}
	tells(t, m, 1, at(3, 1))
	if one, all, e := m.Weights(0); one != half || all != half || e != api.OK {
		t.Errorf("Weights(0): %v, %v, %d", one, all, e)
	}
	m = made(t, 1)
	apply(t, m, "h", 0)
	apply(t, m, "h", 0)
	tells(t, m, 0, at(0, 1))
	for _, n := range []int{11, -1} {
		_, want := dense.Zero(n)
		if m, e := sparse.New(n); m != nil || e != want || e != api.ErrArg {
			t.Errorf("New(%d): %v, %d", n, m, e)
		}
	}
	m = made(t, 1)
	if e := m.Apply("cx", []int{0}); e != api.ErrArity {
		t.Errorf("cx on one qubit: %d", e)
	}
	tells(t, m, 0, at(0, 1))
}

// The document's examples that this layer tells.
func TestExamplesOfTheWhole(t *testing.T) {
	m := made(t, 1)
	apply(t, m, "h", 0)
	tells(t, m, 1, at(0, 1), at(1, 1))
	m = made(t, 1)
	apply(t, m, "x", 0)
	apply(t, m, "t", 0)
	tells(t, m, 0, api.Term{Index: 1, R: element(0, 1)})
	apply(t, m, "t", 0)
	tells(t, m, 0, at(1, 1i))
	for range 8 {
		apply(t, m, "w", 0)
	}
	tells(t, m, 0, at(1, 1i))
}

// P14.1: New of each number of qubits, and of those beside them.
func TestNew(t *testing.T) {
	for n := range 11 {
		m := made(t, n)
		want, _ := dense.Zero(n)
		is(t, m, want)
		tells(t, m, 0, at(0, 1))
		if m.Qubits() != n {
			t.Errorf("New(%d) has %d qubits", n, m.Qubits())
		}
	}
	for _, n := range []int{-1, -2, 11, 12, 63, 64, 65, math.MinInt, math.MaxInt} {
		if m, e := sparse.New(n); m != nil || e != api.ErrArg {
			t.Errorf("New(%d): %v, %d", n, m, e)
		}
	}
}

// P14.1: From of states with noughts, without, and of noughts alone.
func TestFrom(t *testing.T) {
	ten := slices.Repeat([]api.Ring{whole(3)}, 1<<10)
	for _, s := range []api.State{
		numbers(0, 1), numbers(0, 0), numbers(60, 1), numbers(0, 2), numbers(0, 0, 0), numbers(0, 0, 7), numbers(1, 1, 2), numbers(60, 2, 1),
		numbers(0, 0, 0, 0, 0), numbers(4, 1, 0, 0, -1i), state(0, element(0, 1), element(0, 1i)), state(3, whole(0), element(0, -1), whole(0), whole(0)),
		state(60, element(top, 0), element(0, -top)), state(0, element(top-top*1i, top*1i-top)), state(1, element(2, 1), whole(2)),
		{N: 10, Amps: make([]api.Ring, 1<<10)}, {N: 10, K: 60, Amps: ten},
	} {
		is(t, from(t, s), s)
	}
	m := from(t, state(3, whole(0), element(0, -1), whole(0), whole(2i)))
	tells(t, m, 3, api.Term{Index: 1, R: element(0, -1)}, at(3, 2i))
	if m.Qubits() != 2 {
		t.Errorf("%d qubits", m.Qubits())
	}
}

// P14.1: gates by hand, one for each shape of matrix.
func TestGatesByHand(t *testing.T) {
	a, b, c, d := element(1, 2i), element(3-1i, 0), element(0, 5), element(-2, 1+1i)
	for _, g := range []struct {
		name   string
		qubits []int
		old    api.State
		want   api.State
	}{
		{"i", []int{1}, state(3, a, b, c, d), state(3, a, b, c, d)},
		{"x", []int{0}, state(3, a, b, c, d), state(3, b, a, d, c)},
		{"x", []int{1}, state(3, a, whole(0), whole(0), whole(0)), state(3, whole(0), whole(0), a, whole(0))},
		{"y", []int{0}, state(0, a, b), state(0, element(-1-3i, 0), element(1i, -2))},
		{"z", []int{1}, state(0, a, b, c, d), state(0, a, b, element(0, -5), element(2, -1-1i))},
		{"t", []int{0}, state(0, a, d), state(0, a, element(1i-1, -2))},
		{"w", []int{1}, state(0, a, b, c, d), state(0, element(-2, 1), element(0, 3-1i), element(5i, 0), element(1i-1, -2))},
		{"cx", []int{0, 1}, state(1, a, b, c, d), state(1, a, d, c, b)},
		{"cx", []int{1, 0}, state(1, a, b, c, d), state(1, a, b, d, c)},
		{"swap", []int{1, 0}, state(0, a, b, c, d), state(0, a, c, b, d)},
		{"iswap", []int{0, 1}, state(0, a, b, c, d), state(0, a, element(0, 5i), element(1+3i, 0), d)},
		{"h", []int{0}, state(0, a, b), state(1, element(4-1i, 2i), element(-2+1i, 2i))},
		{"h", []int{0}, numbers(0, 3, 1), state(0, element(0, 2-2i), element(0, 1-1i))},
		{"v", []int{0}, numbers(0, 1, 0), state(1, element(0, 1), element(0, -1i))},
		{"ch", []int{0, 1}, numbers(0, 1, 1, 0, 0), state(1, element(0, 1-1i), whole(1), whole(0), whole(1))},
		{"ch", []int{0, 1}, numbers(0, 1, 0, 1, 0), numbers(0, 1, 0, 1, 0)},
		{"ch", []int{1, 0}, numbers(0, 0, 0, 1, 1), state(0, whole(0), whole(0), element(0, 1-1i), whole(0))},
		{"ccx", []int{2, 0, 1}, numbers(0, 0, 1, 2, 3, 4, 5, 6, 7), numbers(0, 0, 1, 2, 3, 4, 7, 6, 5)},
		{"cswap", []int{0, 2, 1}, numbers(0, 0, 1, 2, 3, 4, 5, 6, 7), numbers(0, 0, 1, 2, 5, 4, 3, 6, 7)},
		{"ccz", []int{1, 2, 0}, numbers(0, 0, 1, 2, 3, 4, 5, 6, 7), numbers(0, 0, 1, 2, 3, 4, 5, 6, -7)},
	} {
		m := from(t, g.old)
		apply(t, m, g.name, g.qubits...)
		is(t, m, g.want)
	}
}

// P14.1: weights and parts by hand.
func TestPartsByHand(t *testing.T) {
	s := state(3, element(1, 1), whole(2), whole(0), element(0, 1-1i)) // weights 2 + 1 r, 4, 0, 2
	m := from(t, s)
	if one, all, e := m.Weights(0); one != (api.Root{P: 3, K: 2}) || all != (api.Root{P: 8, Q: 1, K: 3}) || e != api.OK {
		t.Errorf("Weights of qubit 0: %v, %v, %d", one, all, e)
	}
	if one, all, e := m.Weights(1); one != (api.Root{P: 1, K: 2}) || all != (api.Root{P: 8, Q: 1, K: 3}) || e != api.OK {
		t.Errorf("Weights of qubit 1: %v, %v, %d", one, all, e)
	}
	is(t, m, s)
	for _, c := range []struct {
		qubit, bit int
		want       api.State
	}{
		{0, 0, state(3, element(1, 1), whole(0), whole(0), whole(0))},
		// 2 and (1 - i) w over the square root of 2 are (1 - i) w and 1; these can't both be halved once more
		{0, 1, state(2, whole(0), element(0, 1-1i), whole(0), whole(1))},
		{1, 0, state(3, element(1, 1), whole(2), whole(0), whole(0))},
		{1, 1, state(2, whole(0), whole(0), whole(0), whole(1))},
	} {
		part := from(t, s)
		if e := part.Project(c.qubit, c.bit); e != api.OK {
			t.Errorf("Project(%d, %d): %d", c.qubit, c.bit, e)
		}
		is(t, part, c.want)
	}
}

// P14.1: each call on a nil map.
func TestNil(t *testing.T) {
	var m *sparse.Map
	for _, name := range []string{"x", "cx", "", "none"} {
		for _, qubits := range [][]int{nil, {0}, {0, 1}, {-1}, {0, 0}} {
			if e := m.Apply(name, qubits); e != api.ErrArg {
				t.Errorf("%q on %v: %d", name, qubits, e)
			}
		}
	}
	for _, q := range []int{-1, 0, 1, 10, math.MinInt, math.MaxInt} {
		if one, all, e := m.Weights(q); one != (api.Root{}) || all != (api.Root{}) || e != api.ErrArg {
			t.Errorf("Weights(%d): %v, %v, %d", q, one, all, e)
		}
		for _, bit := range []int{-1, 0, 1, 2} {
			if e := m.Project(q, bit); e != api.ErrArg {
				t.Errorf("Project(%d, %d): %d", q, bit, e)
			}
		}
	}
	if list := m.Terms(); len(list) != 0 || m.Power() != 0 || m.Qubits() != 0 {
		t.Errorf("Terms, Power and Qubits: %v, %d, %d", list, m.Power(), m.Qubits())
	}
	if s, e := m.State(); !same(s, api.State{}) || e != api.ErrArg {
		t.Errorf("State: %v, %d", s, e)
	}
}

// P14.1: a state of noughts alone stays so, whatever is applied.
func TestNullStates(t *testing.T) {
	for n := range 11 {
		s := api.State{N: n, Amps: make([]api.Ring, 1<<n)}
		m := from(t, s)
		tells(t, m, 0)
		for q := range n {
			if one, all, e := m.Weights(q); one != (api.Root{}) || all != (api.Root{}) || e != api.OK {
				t.Errorf("their weights: %v, %v, %d", one, all, e)
			}
			for bit := range 2 {
				if e := m.Project(q, bit); e != api.ErrNull {
					t.Errorf("Project of noughts: %d", e)
				}
			}
			for _, name := range []string{"h", "x", "w", "v"} {
				apply(t, m, name, q)
				is(t, m, s)
			}
		}
	}
}
