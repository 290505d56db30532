package cut_test

import (
	"math"
	"testing"

	"cubit/api"
	"cubit/cut"
	"cubit/dense"
)

// A wrong is a state with the error of dense.Check.
type wrong struct {
	s api.State
	e api.Errno
}

// wrongStates are those with one fault, and some with two.
func wrongStates() []wrong {
	two := make([]api.Ring, 2)
	list := []wrong{
		{api.State{}, api.ErrState}, {api.State{N: 1}, api.ErrState}, {api.State{N: 1, Amps: two[:1]}, api.ErrState},
		{api.State{N: 0, Amps: two}, api.ErrState}, {api.State{N: 2, Amps: two}, api.ErrState},
		{api.State{N: -1, Amps: two}, api.ErrState}, {api.State{N: 11, Amps: make([]api.Ring, 2048)}, api.ErrState},
		{api.State{N: math.MinInt}, api.ErrState}, {api.State{N: math.MaxInt, Amps: two}, api.ErrState}, {api.State{N: 64, Amps: two[:1]}, api.ErrState},
		{numbers(-1, 1, 0), api.ErrState}, {numbers(61, 1, 0), api.ErrState}, {numbers(math.MaxInt, 1, 0), api.ErrState}, {numbers(math.MinInt, 1, 0), api.ErrState},
		{numbers(1, 0, 0), api.ErrState}, {numbers(60, 0, 0), api.ErrState}, {numbers(2, 2, 0), api.ErrState}, {numbers(1, 4, 2), api.ErrState},
		{elements(1, api.Ring{A: 1 + 1i}, api.Ring{B: 1 - 3i}), api.ErrState},
		{elements(61, api.Ring{A: 0.5}, number(1)), api.ErrState}, {elements(0, api.Ring{A: 0.5}, number(1), number(1)), api.ErrState},
	}
	minus, infinite := math.Copysign(0, -1), math.Inf(1)
	for _, p := range []float64{minus, 0.5, -1.5, 1 << 53, -(1 << 53), 1e300, infinite, -infinite, math.NaN()} {
		for _, c := range []complex128{complex(p, 0), complex(0, p), complex(2, p), complex(p, p)} {
			list = append(list, wrong{elements(0, api.Ring{A: c}, number(1)), api.ErrWhole}, wrong{elements(0, number(1), api.Ring{B: c}), api.ErrWhole}, wrong{elements(1, number(2), api.Ring{A: c}), api.ErrWhole})
		}
	}
	return list
}

// beyonds are masks with a bit at n or above, some with bits below it too.
func beyonds(n int) []uint64 {
	list := []uint64{1 << n, 1<<n | 1, 1 << (n + 1), 1 << 32, 1 << 62, 1 << 63, 1<<63 | all(n), math.MaxUint64, math.MaxUint64 << n}
	return append(list, 1<<(n+1)-1, 1<<n|all(n)>>1, 1<<63|1)
}

// Rule 8, P22.1: states that dense.Check refuses come ahead of all else.
func TestWrongStates(t *testing.T) {
	for _, w := range wrongStates() {
		if e := dense.Check(w.s); e != w.e {
			t.Fatalf("%v: %d, not %d", few(w.s), e, w.e)
		}
		for _, mask := range []uint64{0, 1, 2, 3, 1 << 10, 1 << 63, math.MaxUint64} {
			isRefused(t, w.s, mask, w.e)
			for _, right := range []api.State{basis(1, 0), basis(0, 0), basis(10, 3), null(1), numbers(0, top, top), numbers(60, 1, 1)} {
				notJoined(t, w.s, right, mask, w.e)
				notJoined(t, right, w.s, mask, w.e)
			}
		}
	}
}

// Rule 8: a's error ahead of b's.
func TestTheFirstStateFirst(t *testing.T) {
	for _, v := range wrongStates() {
		for _, w := range wrongStates() {
			notJoined(t, v.s, w.s, 1, v.e)
			notJoined(t, v.s, w.s, 1<<63, v.e)
		}
	}
}

// P22.1: masks with a bit at the state's qubits or above; of the null state too, and of what would be refused by size, or is no product.
func TestMasksBeyond(t *testing.T) {
	for n := range most + 1 {
		great := null(n)
		for x := range great.Amps {
			great.Amps[x] = number(top)
		}
		for _, s := range []api.State{basis(n, 0), basis(n, 1<<n-1), null(n), great} {
			for _, mask := range beyonds(n) {
				isRefused(t, s, mask, api.ErrArg)
			}
		}
		if n > 1 {
			s := changed(basis(n, 0), 1<<n-1, number(1))
			isNone(t, s, 1<<(n-1))
			isRefused(t, s, 1<<n, api.ErrArg)
			isRefused(t, s, 1<<(n-1)|1<<n, api.ErrArg)
		}
	}
}

// P22.1: the null state, by each mask that it has.
func TestNullStates(t *testing.T) {
	for n := range most + 1 {
		for mask := range uint64(1 << n) {
			isRefused(t, null(n), mask, api.ErrNull)
		}
	}
}

// P22.1: Join's masks have just as many ones as a has qubits, none of them above both together.
func TestJoinsMasks(t *testing.T) {
	for n := range most + 1 {
		for in := range n + 1 {
			a, b := basis(in, 0), basis(n-in, 0)
			for mask := range uint64(1 << n) {
				if ones(mask) == in {
					joins(t, a, b, mask, basis(n, 0))
				} else {
					notJoined(t, a, b, mask, api.ErrArg)
				}
			}
			for _, mask := range beyonds(n) {
				notJoined(t, a, b, mask, api.ErrArg)
				notJoined(t, null(in), b, mask, api.ErrArg)
			}
			for at := n; at < 64 && in > 0; at++ {
				notJoined(t, a, b, 1<<at|all(in-1), api.ErrArg) // as many as a has qubits, but one of them beyond
			}
		}
	}
}

// P22.1: states of more than MaxQubits together, whatever the mask is.
func TestTooManyQubits(t *testing.T) {
	for in := range most + 1 {
		for out := range most + 1 {
			if in+out <= most {
				continue
			}
			for _, mask := range []uint64{all(in), all(in) << out, all(in) << 1, 0, all(most), math.MaxUint64, all(in + out)} {
				notJoined(t, basis(in, 0), basis(out, 0), mask, api.ErrArg)
				notJoined(t, null(in), basis(out, 0), mask, api.ErrArg)
			}
		}
	}
	joins(t, basis(5, 31), basis(5, 0), 0x155, basis(10, 0x155))
	joins(t, basis(10, 77), basis(0, 0), 1023, basis(10, 77))
	joins(t, basis(0, 0), basis(10, 77), 0, basis(10, 77))
}

// P22.1: what is wrong with the mask comes ahead of what is too great.
func TestMasksAheadOfSize(t *testing.T) {
	great, deep := numbers(0, top, top), numbers(60, 1, 1)
	for _, s := range []api.State{great, deep} {
		notJoined(t, s, s, 1, api.ErrBig)
		notJoined(t, s, s, 2, api.ErrBig)
		for _, mask := range []uint64{0, 3, 4, 5, 1 << 63} {
			notJoined(t, s, s, mask, api.ErrArg)
		}
	}
	wide := numbers(0, 1, 1<<27, 1<<27, 1)
	isRefused(t, wide, 1, api.ErrBig)
	for _, mask := range []uint64{4, 5, 7, 1 << 63} {
		isRefused(t, wide, mask, api.ErrArg)
	}
}

// spoilt is a state with something wrong, or as it is.
func (s *source) spoilt(a api.State) api.State {
	switch s.below(12) {
	case 0:
		a.N += pick(s, -1, 1, 64, -64)
	case 1:
		a.K = pick(s, -1, 61, math.MaxInt)
	case 2:
		a = changed(a, s.below(len(a.Amps)), pick(s, api.Ring{A: 0.5}, api.Ring{B: 1 << 53}, api.Ring{A: complex(0, math.Inf(1))}))
	case 3:
		a.Amps = a.Amps[1:]
	case 4:
		a = null(a.N)
	}
	return a
}

// Rule 1, rule 2: all sorts of states and masks, several of them wrong at once.
func TestAllShapes(t *testing.T) {
	s := source(51)
	counts := map[api.Errno]int{}
	for range 20000 {
		n := s.below(4)
		a, b := s.spoilt(s.state(n, pick(&s, 1, 1, 54), pick(&s, 0, 2, 60))), s.spoilt(s.state(s.below(9), pick(&s, 1, 1, 54), s.below(3)))
		mask := s.mask(n + s.below(3))
		wantS, wantJ := dense.Check(a), dense.Check(a)
		if wantJ == api.OK {
			wantJ = dense.Check(b)
		}
		if wantS == api.OK {
			_, wantS = split(a, mask)
		}
		if wantJ == api.OK {
			_, wantJ = joined(a, b, mask)
		}
		counts[wantS]++
		counts[wantJ]++
		if yes, e := cut.Splits(a, mask); e != wantS || e != api.OK && yes {
			t.Fatalf("Splits of %v by %b: %v, %d, not %d", few(a), mask, yes, e, wantS)
		}
		if z, e := cut.Join(a, b, mask); e != wantJ || e != api.OK && !empty(z) {
			t.Fatalf("Join of %v and %v by %b: %v, %d, not %d", few(a), few(b), mask, few(z), e, wantJ)
		}
	}
	for _, e := range []api.Errno{api.OK, api.ErrArg, api.ErrBig, api.ErrNull, api.ErrState, api.ErrWhole} {
		if counts[e] < 200 {
			t.Errorf("errors: %v", counts)
		}
	}
}
