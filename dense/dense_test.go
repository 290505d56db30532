package dense_test

import (
	"math"
	"slices"
	"testing"

	"cubit/api"
	"cubit/dense"
)

// The functions are as the chapter has them.
var (
	_ func(int) (api.State, api.Errno)                      = dense.Zero
	_ func(int, uint64) (api.State, api.Errno)              = dense.Basis
	_ func(api.State) api.Errno                             = dense.Check
	_ func(api.State, string, []int) (api.State, api.Errno) = dense.Apply
	_ func(api.State, int) (api.Root, api.Root, api.Errno)  = dense.Weights
	_ func(api.State, int, int) (api.State, api.Errno)      = dense.Project
	_ func(api.State, uint64) (api.Amp, api.Errno)          = dense.Amp
	_ func(api.State) (api.Root, api.Errno)                 = dense.Weight
	_ func(api.State, api.State) (int, bool)                = dense.Phase
	_ func(api.State, api.Circuit) (api.State, api.Errno)   = dense.Run
)

// top is the greatest part.
const top = 1<<53 - 1

func element(a, b complex128) api.Ring { return api.Ring{A: a, B: b} }

// whole is an element without w.
func whole(a complex128) api.Ring { return element(a, 0) }

// state is one of these elements, as many as they are, over the power k.
func state(k int, list ...api.Ring) api.State {
	n := 0
	for 1<<n < len(list) {
		n++
	}
	return api.State{N: n, K: k, Amps: list}
}

// numbers is a state of elements without w.
func numbers(k int, list ...complex128) api.State {
	var all []api.Ring
	for _, a := range list {
		all = append(all, whole(a))
	}
	return state(k, all...)
}

// sameNumber: the same bits, so that -0 is not 0.
func sameNumber(x, y complex128) bool {
	return math.Float64bits(real(x)) == math.Float64bits(real(y)) && math.Float64bits(imag(x)) == math.Float64bits(imag(y))
}

func sameElement(r, s api.Ring) bool { return sameNumber(r.A, s.A) && sameNumber(r.B, s.B) }

// same: are these the same states, bit by bit? (No list and an empty one are the same.)
func same(a, b api.State) bool {
	return a.N == b.N && a.K == b.K && slices.EqualFunc(a.Amps, b.Amps, sameElement)
}

// few is a state's first elements, for a message.
func few(s api.State) api.State {
	s.Amps = s.Amps[:min(len(s.Amps), 16)]
	return s
}

// taken is what a call must answer with OK; and Check must take it.
func taken(t *testing.T, s api.State, e api.Errno) api.State {
	t.Helper()
	if e != api.OK {
		t.Fatalf("error %d", e)
	}
	if f := dense.Check(s); f != api.OK {
		t.Fatalf("%v, which Check refuses with %d", few(s), f)
	}
	return s
}

// refused asks for an error, and for nothing beside it.
func refused(t *testing.T, name string, s api.State, e, want api.Errno) {
	t.Helper()
	if e != want || !same(s, api.State{}) {
		t.Errorf("%s: %v, %d, not %d alone", name, few(s), e, want)
	}
}

func zero(t *testing.T, n int) api.State {
	t.Helper()
	s, e := dense.Zero(n)
	return taken(t, s, e)
}

func basis(t *testing.T, n int, index uint64) api.State {
	t.Helper()
	s, e := dense.Basis(n, index)
	return taken(t, s, e)
}

func apply(t *testing.T, s api.State, name string, qubits ...int) api.State {
	t.Helper()
	z, e := dense.Apply(s, name, qubits)
	return taken(t, z, e)
}

func project(t *testing.T, s api.State, qubit, bit int) api.State {
	t.Helper()
	z, e := dense.Project(s, qubit, bit)
	return taken(t, z, e)
}

func run(t *testing.T, s api.State, c api.Circuit) api.State {
	t.Helper()
	z, e := dense.Run(s, c)
	return taken(t, z, e)
}

func op(name string, qubits ...int) api.Op {
	return api.Op{Kind: api.OpGate, Name: name, Qubits: qubits}
}

func circuitOf(qubits int, ops ...api.Op) api.Circuit { return api.Circuit{Qubits: qubits, Ops: ops} }

func TestNumbersOfTheChapter(t *testing.T) {
	if api.ErrArg != 2 || api.ErrBig != 3 || api.ErrWhole != 20 || api.ErrGate != 80 || api.ErrArity != 111 || api.ErrSame != 113 || api.ErrState != 130 || api.ErrNull != 131 || api.ErrBack != 121 {
		t.Error("the errors are not the chapter's")
	}
	if api.MaxPart != top || api.MaxQubits != 10 || api.MaxPower != 60 {
		t.Error("the limits are not the document's")
	}
}

// The chapter's examples.
func TestExamples(t *testing.T) {
	z := zero(t, 1)
	if !same(z, numbers(0, 1, 0)) {
		t.Errorf("Zero(1): %v", z)
	}
	h := apply(t, z, "h", 0)
	if !same(h, numbers(1, 1, 1)) {
		t.Errorf("h: %v", h)
	}
	if again := apply(t, h, "h", 0); !same(again, z) {
		t.Errorf("h once more: %v", again)
	}
	if s := apply(t, basis(t, 2, 1), "cx", 0, 1); !same(s, numbers(0, 0, 0, 0, 1)) {
		t.Errorf("cx: %v", s)
	}
	if one, all, e := dense.Weights(h, 0); one != (api.Root{P: 1, K: 1}) || all != (api.Root{P: 1}) || e != api.OK {
		t.Errorf("Weights: %v, %v, %d", one, all, e)
	}
	if s := project(t, h, 0, 1); !same(s, numbers(1, 0, 1)) {
		t.Errorf("Project: %v", s)
	}
	s, e := dense.Project(z, 0, 1)
	refused(t, "Project of noughts", s, e, api.ErrNull)
	s, e = dense.Apply(z, "cx", []int{0})
	refused(t, "cx of one qubit", s, e, api.ErrArity)
	s, e = dense.Apply(zero(t, 2), "cx", []int{0, 0})
	refused(t, "cx of one qubit twice", s, e, api.ErrSame)
	s, e = dense.Apply(z, "q", []int{0})
	refused(t, "q", s, e, api.ErrGate)
	if e := dense.Check(numbers(1, 2, 0)); e != api.ErrState {
		t.Errorf("Check of 2 and 0 over 1: %d", e)
	}
}

// The document's examples that this layer tells.
func TestExamplesOfTheWhole(t *testing.T) {
	pair := apply(t, apply(t, zero(t, 2), "h", 0), "cx", 0, 1)
	if !same(pair, numbers(1, 1, 0, 0, 1)) {
		t.Errorf("h and cx: %v", pair)
	}
	if w, e := dense.Weight(pair); w != (api.Root{P: 1}) || e != api.OK {
		t.Errorf("their weight: %v, %d", w, e)
	}
	one := basis(t, 1, 1)
	turned := apply(t, one, "t", 0)
	if !same(turned, state(0, whole(0), element(0, 1))) {
		t.Errorf("t on a one: %v", turned)
	}
	if twice := apply(t, turned, "t", 0); !same(twice, apply(t, one, "s", 0)) || !same(twice, numbers(0, 0, 1i)) {
		t.Errorf("t twice on a one: %v", twice)
	}
	s := pair
	for range 8 {
		s = apply(t, s, "w", 1)
	}
	if !same(s, pair) {
		t.Errorf("w eight times: %v", s)
	}
	c := circuitOf(3, slices.Repeat([]api.Op{op("h", 2)}, 37)...)
	r, e := dense.Run(zero(t, 3), c)
	refused(t, "37 times h", r, e, api.ErrRoots)
}

// P13.1: each basis state of each number of qubits.
func TestBasisStates(t *testing.T) {
	for n := range 11 {
		for index := range uint64(1) << n {
			s := basis(t, n, index)
			if s.N != n || s.K != 0 || len(s.Amps) != 1<<n {
				t.Fatalf("Basis(%d, %d): %v", n, index, few(s))
			}
			for x, r := range s.Amps {
				if want := whole(0); uint64(x) != index && !sameElement(r, want) || uint64(x) == index && !sameElement(r, whole(1)) {
					t.Fatalf("Basis(%d, %d): element %d is %v", n, index, x, r)
				}
			}
		}
		if !same(zero(t, n), basis(t, n, 0)) {
			t.Errorf("Zero(%d): %v", n, few(zero(t, n)))
		}
	}
}

// P13.1: wrong numbers of qubits and wrong indices.
func TestWrongBasis(t *testing.T) {
	for _, n := range []int{-1, -2, 11, 12, 63, 64, 65, math.MinInt, math.MaxInt} {
		s, e := dense.Zero(n)
		refused(t, "Zero", s, e, api.ErrArg)
		for _, index := range []uint64{0, 1, 1 << 10, math.MaxUint64} {
			s, e = dense.Basis(n, index)
			refused(t, "Basis", s, e, api.ErrArg)
		}
	}
	for n := range 11 {
		for _, index := range []uint64{1 << n, 1<<n + 1, 1 << 32, 1 << 63, math.MaxUint64} {
			s, e := dense.Basis(n, index)
			refused(t, "Basis", s, e, api.ErrArg)
		}
	}
}

// P13.1: gates by hand, one for each shape of matrix.
func TestGatesByHand(t *testing.T) {
	a, b, c, d := element(1, 2i), element(3-1i, 0), element(0, 5), element(-2, 1+1i)
	for _, g := range []struct {
		name   string
		qubits []int
		old    api.State
		want   api.State
	}{
		{"x", []int{0}, state(3, a, b, c, d), state(3, b, a, d, c)},
		{"x", []int{1}, state(3, a, b, c, d), state(3, c, d, a, b)},
		{"y", []int{0}, state(0, a, b), state(0, element(-1-3i, 0), element(1i, -2))},
		{"z", []int{1}, state(0, a, b, c, d), state(0, a, b, element(0, -5), element(2, -1-1i))},
		{"t", []int{0}, state(0, a, d), state(0, a, element(1i-1, -2))},
		{"w", []int{1}, state(0, a, b, c, d), state(0, element(-2, 1), element(0, 3-1i), element(5i, 0), element(1i-1, -2))},
		{"cx", []int{0, 1}, state(1, a, b, c, d), state(1, a, d, c, b)},
		{"cx", []int{1, 0}, state(1, a, b, c, d), state(1, a, b, d, c)},
		{"swap", []int{1, 0}, state(0, a, b, c, d), state(0, a, c, b, d)},
		{"iswap", []int{0, 1}, state(0, a, b, c, d), state(0, a, element(0, 5i), element(1+3i, 0), d)},
		{"h", []int{0}, state(0, a, b), state(1, element(4-1i, 2i), element(-2+1i, 2i))},
		{"h", []int{0}, numbers(0, 3, 1), state(0, element(0, 2-2i), element(0, 1-1i))},
		{"v", []int{0}, numbers(0, 1, 0), state(1, element(0, 1), element(0, -1i))},
		{"ch", []int{0, 1}, numbers(0, 1, 1, 0, 0), state(1, element(0, 1-1i), whole(1), whole(0), whole(1))},
		{"ch", []int{0, 1}, numbers(0, 1, 0, 1, 0), numbers(0, 1, 0, 1, 0)},
		{"ch", []int{1, 0}, numbers(0, 0, 0, 1, 1), state(0, whole(0), whole(0), element(0, 1-1i), whole(0))},
		{"ccx", []int{2, 0, 1}, numbers(0, 0, 1, 2, 3, 4, 5, 6, 7), numbers(0, 0, 1, 2, 3, 4, 7, 6, 5)},
		{"cswap", []int{2, 0, 1}, numbers(0, 0, 1, 2, 3, 4, 5, 6, 7), numbers(0, 0, 1, 2, 3, 4, 6, 5, 7)},
		{"cswap", []int{0, 2, 1}, numbers(0, 0, 1, 2, 3, 4, 5, 6, 7), numbers(0, 0, 1, 2, 5, 4, 3, 6, 7)},
		{"ccz", []int{1, 2, 0}, numbers(0, 0, 1, 2, 3, 4, 5, 6, 7), numbers(0, 0, 1, 2, 3, 4, 5, 6, -7)},
	} {
		if s := apply(t, g.old, g.name, g.qubits...); !same(s, g.want) {
			t.Errorf("%s on %v of %v: %v, not %v", g.name, g.qubits, g.old, s, g.want)
		}
	}
}

// P13.1: weights, parts and amplitudes by hand.
func TestPartsByHand(t *testing.T) {
	s := state(3, element(1, 1), whole(2), whole(0), element(0, 1-1i)) // weights 2 + 1 r, 4, 0, 2
	if w, e := dense.Weight(s); w != (api.Root{P: 8, Q: 1, K: 3}) || e != api.OK {
		t.Errorf("Weight: %v, %d", w, e)
	}
	if one, all, e := dense.Weights(s, 0); one != (api.Root{P: 3, K: 2}) || all != (api.Root{P: 8, Q: 1, K: 3}) || e != api.OK {
		t.Errorf("Weights of qubit 0: %v, %v, %d", one, all, e)
	}
	if one, all, e := dense.Weights(s, 1); one != (api.Root{P: 1, K: 2}) || all != (api.Root{P: 8, Q: 1, K: 3}) || e != api.OK {
		t.Errorf("Weights of qubit 1: %v, %v, %d", one, all, e)
	}
	if p := project(t, s, 0, 0); !same(p, state(3, element(1, 1), whole(0), whole(0), whole(0))) {
		t.Errorf("qubit 0 is 0: %v", p)
	}
	// 2 and (1 - i) w over the square root of 2 are (1 - i) w and 1; these can't both be halved once more.
	if p := project(t, s, 0, 1); !same(p, state(2, whole(0), element(0, 1-1i), whole(0), whole(1))) {
		t.Errorf("qubit 0 is 1: %v", p)
	}
	if p := project(t, s, 1, 1); !same(p, state(2, whole(0), whole(0), whole(0), whole(1))) {
		t.Errorf("qubit 1 is 1: %v", p)
	}
	for index, want := range []api.Amp{{R: element(1, 1), K: 3}, {R: whole(1), K: 1}, {}, {R: whole(1), K: 2}} {
		if a, e := dense.Amp(s, uint64(index)); a != want || e != api.OK {
			t.Errorf("Amp %d: %v, %d", index, a, e)
		}
	}
}

// P13.1: what is nought everywhere is a state too.
func TestNullStates(t *testing.T) {
	for n := range 11 {
		s := api.State{N: n, Amps: make([]api.Ring, 1<<n)}
		if e := dense.Check(s); e != api.OK {
			t.Errorf("Check of %d qubits' noughts: %d", n, e)
		}
		if w, e := dense.Weight(s); w != (api.Root{}) || e != api.OK {
			t.Errorf("their weight: %v, %d", w, e)
		}
		if a, e := dense.Amp(s, 1<<n-1); a != (api.Amp{}) || e != api.OK {
			t.Errorf("their last amplitude: %v, %d", a, e)
		}
		if k, ok := dense.Phase(s, s); k != 0 || !ok {
			t.Errorf("their phase: %d, %v", k, ok)
		}
		for q := range n {
			if one, all, e := dense.Weights(s, q); one != (api.Root{}) || all != (api.Root{}) || e != api.OK {
				t.Errorf("their weights: %v, %v, %d", one, all, e)
			}
			for bit := range 2 {
				p, e := dense.Project(s, q, bit)
				refused(t, "Project of noughts", p, e, api.ErrNull)
			}
			for _, name := range []string{"h", "x", "w", "v"} {
				if z := apply(t, s, name, q); !same(z, s) {
					t.Errorf("%s of noughts: %v", name, few(z))
				}
			}
		}
	}
}
