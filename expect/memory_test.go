package expect_test

import (
	"slices"
	"testing"

	"cubit/api"
	"cubit/expect"
)

// spare is what stands in the room behind lists, and must stay there.
const spare = 77

var (
	spareRing  = api.Ring{A: spare, B: spare}
	sparePauli = api.Pauli{N: spare, X: spare, Z: spare, Phase: spare}
)

// roomy is a list in memory of its own, with room behind it and marks in it.
func roomy[V any](list []V, mark V) []V {
	return append(append(make([]V, 0, len(list)+2), list...), mark, mark)[:len(list)]
}

// listStays asks that roomy's list is as it was, its spare room included.
func listStays[V comparable](t *testing.T, what string, list, want []V, mark V) {
	t.Helper()
	if !slices.Equal(list, want) || !slices.Equal(list[len(list):cap(list)], []V{mark, mark}) {
		t.Fatalf("%s: a list became %v", what, list[:cap(list)])
	}
}

func roomyState(s api.State) api.State {
	s.Amps = roomy(s.Amps, spareRing)
	return s
}

func stateStays(t *testing.T, what string, s, want api.State) {
	t.Helper()
	if s.N != want.N || s.K != want.K {
		t.Fatalf("%s: %v became %v", what, few(want), few(s))
	}
	listStays(t, what, s.Amps, want.Amps, spareRing)
}

// spoil writes over all that a state's list holds, with its spare room.
func spoil(s api.State) {
	list := s.Amps[:cap(s.Amps)]
	for x := range list {
		list[x] = api.Ring{A: -9, B: 9i}
	}
}

// given are states of up to three qubits for these tests: such as are taken, and such as are refused (but none with NaN, which is unlike itself).
func given(t *testing.T) []api.State {
	s := source(61)
	list := []api.State{numbers(1, 2, 0), numbers(0, 0, 1, 2), {}, {N: 1}, elements(0, api.Ring{A: 0.5}, number(1)), numbers(61, 1, 0)}
	for n := range 4 {
		list = append(list, states(t, &s, n)...)
	}
	return list
}

// someStrings are on n qubits, the one that changes nothing first; or wrong ones.
func someStrings(s *source, n int) []api.Pauli {
	n = max(n, 0)
	return []api.Pauli{{N: n}, {N: n, Phase: 2}, {N: n, Phase: 1}, s.string(n, 0, 2), s.string(n, 1, 3), {N: n + 1}, {N: n, Phase: 4}}
}

// Rule 5: states that are handed in stay, with the room behind them, whether they are taken or refused.
func TestStatesStay(t *testing.T) {
	s := source(62)
	for _, a := range given(t) {
		mine := roomyState(a)
		for _, p := range someStrings(&s, a.N) {
			expect.Value(mine, p)
			stateStays(t, "Value", mine, a)
			expect.Sum(mine, []api.Pauli{p, p}, []int64{3, -2})
			stateStays(t, "Sum", mine, a)
			expect.Act(mine, p)
			stateStays(t, "Act", mine, a)
		}
	}
}

// Rule 5: so do the lists of strings and of factors.
func TestListsStay(t *testing.T) {
	s := source(63)
	for _, a := range given(t) {
		for _, l := range []plan{s.plan(max(a.N, 0), 3), {someStrings(&s, a.N), make([]int64, 7)}, {nil, []int64{4, 5}}, {}, {someStrings(&s, a.N)[:3], []int64{1, 2}}, {[]api.Pauli{{N: a.N}, {N: a.N}}, []int64{1<<63 - 1, -1 << 63}}} {
			ps, factors := roomy(l.ps, sparePauli), roomy(l.factors, spare)
			first, e := expect.Sum(a, ps, factors)
			listStays(t, "Sum", ps, l.ps, sparePauli)
			listStays(t, "Sum", factors, l.factors, spare)
			if again, f := expect.Sum(a, ps, factors); again != first || e != f {
				t.Fatalf("Sum of %v: %v, %d, and then %v, %d", l, first, e, again, f)
			}
		}
	}
}

// Rule 5: Act's answers share no memory with what was handed in, nor with one another.
func TestStatesAreTheCallers(t *testing.T) {
	s := source(64)
	tried := 0
	for _, a := range given(t) {
		for _, p := range someStrings(&s, a.N) {
			mine := roomyState(a)
			first, e := expect.Act(mine, p)
			second, _ := expect.Act(mine, p)
			if e != api.OK {
				continue
			}
			tried++
			want := api.State{N: first.N, K: first.K, Amps: slices.Clone(first.Amps)}
			spoil(first)
			stateStays(t, "Act", mine, a)
			if !same(second, want) {
				t.Fatalf("Act of %v on %v: two answers share memory", p, a)
			}
			if third, _ := expect.Act(mine, p); !same(third, want) {
				t.Fatalf("Act of %v on %v: behind a spoilt answer comes %v", p, a, third)
			}
			spoil(mine)
			if !same(second, want) {
				t.Fatalf("Act of %v on %v: the answer shares memory with the state", p, a)
			}
		}
	}
	if tried < 500 {
		t.Errorf("tried %d", tried)
	}
}

// Rule 6: nothing is kept: a state that is written over between calls is looked at anew.
func TestNothingIsKept(t *testing.T) {
	mine := numbers(0, 0, 0)
	for _, pair := range [][2]int64{{1, 0}, {2, 0}, {0, 3}, {2, 1}, {1, 0}, {0, 0}} {
		a, b := pair[0], pair[1]
		mine.Amps[0], mine.Amps[1] = number(a), number(b)
		hasValue(t, mine, "Z", api.Root{P: a*a - b*b})
		hasSum(t, mine, []string{"Z", "X"}, []int64{2, 3}, api.Root{P: 2*(a*a-b*b) + 6*a*b}, api.OK)
		becomes(t, mine, "-Z", numbers(0, -a, b))
		becomes(t, mine, "X", numbers(0, b, a))
	}
}
