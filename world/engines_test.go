package world_test

import (
	"math"
	"slices"
	"testing"

	"cubit/api"
	"cubit/dense"
	"cubit/gate"
	"cubit/sparse"
	"cubit/world"
)

// engines are one of each kind.
func engines(t *testing.T, n int) []world.Engine {
	t.Helper()
	d, e := world.Dense(n)
	s, f := world.Sparse(n)
	if e != api.OK || f != api.OK || d == nil || s == nil {
		t.Fatalf("%d qubits: %v, %d; %v, %d", n, d, e, s, f)
	}
	return []world.Engine{d, s}
}

// P17.2: beside an error the engine is nil, and not merely a nil pointer in it.
func TestNumbersOfQubits(t *testing.T) {
	for _, n := range []int{-1, 11, 12, 63, 64, 65, math.MinInt, math.MaxInt} {
		if g, e := world.Dense(n); g != nil || e != api.ErrArg {
			t.Errorf("Dense(%d): %v, %d", n, g, e)
		}
		if g, e := world.Sparse(n); g != nil || e != api.ErrArg {
			t.Errorf("Sparse(%d): %v, %d", n, g, e)
		}
	}
	for n := range 11 {
		for _, g := range engines(t, n) {
			for q := range n {
				if one, all, e := g.Weights(q); one != null || all != whole || e != api.OK {
					t.Errorf("%T of %d qubits: %v, %v, %d", g, n, one, all, e)
				}
			}
			for _, q := range []int{-1, n, math.MinInt, math.MaxInt} {
				if one, all, e := g.Weights(q); one != null || all != null || e != api.ErrArg {
					t.Errorf("%T of %d qubits at %d: %v, %v, %d", g, n, q, one, all, e)
				}
			}
		}
	}
}

// weigh holds what an engine tells of all qubits, and of some that there aren't, against what dense tells of a state.
func weigh(t *testing.T, g world.Engine, z api.State) {
	t.Helper()
	for q := -1; q <= z.N; q++ {
		one, all, e := g.Weights(q)
		if wantOne, wantAll, want := dense.Weights(z, q); one != wantOne || all != wantAll || e != want {
			t.Fatalf("%T, qubit %d of %v: %v, %v, %d, not %v, %v, %d", g, q, z, one, all, e, wantOne, wantAll, want)
		}
	}
}

// try makes a call on an engine, right or wrong, and tells what dense makes of the state.
func (s *source) try(g world.Engine, z api.State) (got, want api.Errno, next api.State) {
	if s.below(5) == 0 {
		q, bit := s.below(z.N+1)-s.below(2), pick(s, 0, 0, 0, 1, 1, 1, -1, 2)
		got = g.Project(q, bit)
		next, want = dense.Project(z, q, bit)
		return got, want, next
	}
	name, list := pick(s, append(gate.Names(), "none", "h", "t", "h", "t", "h")...), []int(nil)
	if z.N > 0 {
		list = s.qubits(z.N, min(max(gate.Arity(name), 1), z.N))
	}
	if s.below(8) == 0 {
		list = pick(s, nil, []int{0}, []int{0, 0}, []int{-1}, []int{z.N}, []int{0, 1, 2, 3})
	}
	got = g.Apply(name, slices.Clone(list))
	next, want = dense.Apply(z, name, list)
	return got, want, next
}

// P17.2: whatever is called, both engines tell what dense tells of a state that begins as Zero, stays by an error, and else becomes the answer.
func TestEngines(t *testing.T) {
	errors := map[api.Errno]int{}
	for seed := range uint64(120) {
		for kind := range 2 {
			s := source(seed)
			n := int(seed) % 5
			g := engines(t, n)[kind]
			z, _ := dense.Zero(n)
			for range 60 {
				got, want, next := s.try(g, z)
				if got != want {
					t.Fatalf("%T over %v: %d, not %d", g, z, got, want)
				}
				if want == api.OK {
					z = next
				}
				errors[want]++
				weigh(t, g, z)
			}
		}
	}
	for _, e := range []api.Errno{api.OK, api.ErrArg, api.ErrGate, api.ErrArity, api.ErrSame, api.ErrNull} {
		if errors[e] < 20 {
			t.Errorf("error %d: %d times only", e, errors[e])
		}
	}
}

// P17.2: the state is as before behind each kind of error, its signs and phases too: h leads back to a basis state.
func TestStateBehindAnError(t *testing.T) {
	for kind := range 2 {
		g := engines(t, 2)[kind]
		for _, c := range []struct {
			e, want api.Errno
		}{
			{g.Project(0, 1), api.ErrNull},
			{g.Apply("h", []int{0}), api.OK},
			{g.Apply("z", []int{0}), api.OK},
			{g.Apply("none", []int{0}), api.ErrGate},
			{g.Apply("cx", []int{0}), api.ErrArity},
			{g.Apply("cx", []int{0, 2}), api.ErrArg},
			{g.Apply("cx", []int{0, 0}), api.ErrSame},
			{g.Project(2, 0), api.ErrArg},
			{g.Project(0, 2), api.ErrArg},
			{g.Project(0, -1), api.ErrArg},
			{g.Project(1, 1), api.ErrNull},
			{g.Apply("h", []int{0}), api.OK},
		} {
			if c.e != c.want {
				t.Errorf("%T: %d, not %d", g, c.e, c.want)
			}
		}
		weigh(t, g, numbers(2, 0, 0, 1, 0, 0))
	}
}

// P17.2: what is refused by size leaves the state as well, and may be asked again.
func TestRefusedBySize(t *testing.T) {
	for kind := range 2 {
		g := engines(t, 1)[kind]
		z, _ := dense.Zero(1)
		big, name := 0, "h"
		for range 400 {
			next, want := dense.Apply(z, name, []int{0})
			if e := g.Apply(name, []int{0}); e != want {
				t.Fatalf("%T over %v: %d, not %d", g, z, e, want)
			}
			if want == api.OK {
				z = next
			} else {
				big++
			}
			weigh(t, g, z)
			name = map[string]string{"h": "t", "t": "h"}[name]
		}
		if big == 0 || z.K < 50 {
			t.Errorf("%T: K %d, %d refused", g, z.K, big)
		}
	}
}

// Rule 6: each engine has a state of its own.
func TestEnginesOfTheirOwn(t *testing.T) {
	for kind := range 2 {
		a, b := engines(t, 1)[kind], engines(t, 1)[kind]
		if e := a.Apply("x", []int{0}); e != api.OK {
			t.Fatal(e)
		}
		weigh(t, a, numbers(1, 0, 0, 1))
		weigh(t, b, numbers(1, 0, 1, 0))
		weigh(t, engines(t, 1)[kind], numbers(1, 0, 1, 0))
	}
}

// P17.1: an engine goes on where it is: a second run begins with the state behind the first one, but with bits 0.
func TestOneBehindTheOther(t *testing.T) {
	for _, g := range engines(t, 1) {
		first, e := world.Play(g, of(1, 2, op("x", 0), measure(0, 1)), flips(1))
		if want := ran(2, surely(0, 0, 1)); e != api.OK || !sameRun(first, want) {
			t.Errorf("%T: %v, %d", g, first, e)
		}
		second, e := world.Play(g, of(1, 2, when(op("x", 0), 2, 2), measure(0, 0)), flips(1))
		if want := ran(1, surely(0, 0, 1)); e != api.OK || !sameRun(second, want) {
			t.Errorf("%T: %v, %d", g, second, e)
		}
	}
}

// P17.1: an engine of fewer qubits than the circuit has tells its own error, where the run comes to one that it hasn't.
func TestOtherNumbersOfQubits(t *testing.T) {
	for _, g := range engines(t, 1) {
		for _, c := range []struct {
			o api.Op
			e api.Errno
		}{{op("x", 1), api.ErrArg}, {measure(1, 0), api.ErrArg}, {reset(5), api.ErrArg}, {op("x", 0), api.OK}, {reset(0), api.OK}, {when(op("x", 5), 1, 1), api.OK}} {
			if _, e := world.Play(g, of(64, 1, c.o), flips(1)); e != c.e {
				t.Errorf("%T: %v tells %d", g, c.o, e)
			}
		}
	}
}

// P17.1: a nil pointer in an engine is the caller's: it is called, and what it tells is answered.
func TestNilPointer(t *testing.T) {
	var m *sparse.Map
	for _, o := range []api.Op{op("h", 0), measure(0, 0), reset(0)} {
		if run, e := world.Play(m, of(1, 1, o), flips(1)); e != api.ErrArg || !noRun(run) {
			t.Errorf("%v: %v, %d", o, run, e)
		}
	}
	if run, e := world.Play(m, of(1, 1), nil); e != api.OK || !noRun(run) {
		t.Errorf("%v, %d", run, e)
	}
}
