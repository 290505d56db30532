package sparse_test

import (
	"slices"
	"testing"

	"cubit/api"
	"cubit/dense"
	"cubit/gate"
	"cubit/sparse"
)

// spare is what stands in the room behind lists, and must stay there.
const spare = 77

var behind = api.Ring{A: spare, B: spare}

// roomy is a state in memory of its own, with room behind its list and marks in it.
func roomy(s api.State) api.State {
	list := append(make([]api.Ring, 0, len(s.Amps)+2), s.Amps...)
	s.Amps = append(list, behind, behind)[:len(list)]
	return s
}

// stays asks that roomy's state is as it was, its spare room included.
func stays(t *testing.T, name string, s, want api.State) {
	t.Helper()
	if !same(s, want) {
		t.Errorf("%s: %v became %v", name, few(want), few(s))
	}
	if room := s.Amps[len(s.Amps):cap(s.Amps)]; len(room) != 2 || room[0] != behind || room[1] != behind {
		t.Errorf("%s: the room behind the elements is changed: %v", name, room)
	}
}

// roomyList is a list of qubits with room behind it and marks in it.
func roomyList(list []int) []int {
	return append(append(make([]int, 0, len(list)+2), list...), spare, spare)[:len(list)]
}

// spoil writes over all that a state's list holds, with its spare room.
func spoil(s api.State) {
	list := s.Amps[:cap(s.Amps)]
	for x := range list {
		list[x] = api.Ring{A: -9, B: 9i}
	}
}

func spoilTerms(list []api.Term) {
	list = list[:cap(list)]
	for j := range list {
		list[j] = api.Term{Index: 1 << 40, R: api.Ring{A: -9, B: 9i}}
	}
}

// given are states for these tests.
func given() []api.State {
	s := source(41)
	list := []api.State{numbers(0, 1), numbers(0, 0), numbers(0, 0, 0, 0, 0), numbers(60, 1, 0, 0, 0), numbers(0, top, top, 0, 0), numbers(3, 1, 2, 2, 2, 4, 2, 2, 2)}
	for j := range 30 {
		list = append(list, s.anyState(j%5))
	}
	return list
}

// Rule 5: a state that is handed in stays, with the room behind it, whether it is taken or refused, and whatever is done with the map.
func TestStatesStay(t *testing.T) {
	r := source(42)
	for _, s := range given() {
		mine := roomy(s)
		w := &twin{from(t, mine), s}
		for range 10 {
			w.step(t, &r)
			stays(t, "a call", mine, s)
		}
	}
	for _, s := range []api.State{numbers(1, 2, 0), numbers(0, 0, 0), numbers(60, 2, 2), numbers(61, 1, 0), {N: 1, Amps: []api.Ring{whole(2)}}} {
		mine := roomy(s)
		sparse.From(mine)
		stays(t, "From", mine, s)
	}
}

// Rule 5: a state that is handed in isn't kept.
func TestStatesAreNotKept(t *testing.T) {
	r := source(43)
	for _, s := range given() {
		mine := roomy(s)
		w := &twin{from(t, mine), s}
		spoil(mine)
		is(t, w.m, s)
		for range 5 {
			w.step(t, &r)
		}
	}
}

// Rule 5: lists of qubits stay, with the room behind them, and aren't kept.
func TestQubitsStay(t *testing.T) {
	for _, s := range given() {
		for _, list := range [][]int{nil, {0}, {2}, {1, 0}, {0, 0}, {2, 0, 1}, {0, 1, 1}, {-1, 5, 5}, {3, 2, 1, 0}} {
			for _, name := range append(gate.Names(), "none") {
				mine := roomyList(list)
				w := twinOf(t, s)
				w.apply(t, name, mine)
				if !slices.Equal(mine, list) || !slices.Equal(mine[len(mine):cap(mine)], []int{spare, spare}) {
					t.Errorf("%s: the list %v became %v, with %v behind it", name, list, mine, mine[len(mine):cap(mine)])
				}
				for j := range mine {
					mine[j] = spare
				}
				is(t, w.m, w.s)
			}
		}
	}
}

// Rule 5: what Terms and State answer is the caller's own, and new at each call.
func TestAnswersAreTheCallers(t *testing.T) {
	r := source(44)
	for _, s := range given() {
		w := twinOf(t, s)
		for range 6 {
			terms, other := w.m.Terms(), w.m.Terms()
			state, another := stateOf(t, w.m), stateOf(t, w.m)
			spoilTerms(terms)
			spoil(state)
			if !sameTerms(other, termsOf(w.s)) || !same(another, w.s) {
				t.Fatalf("two answers share memory: %v, %v", other, few(another))
			}
			is(t, w.m, w.s)
			before := w.s
			w.step(t, &r)
			if !sameTerms(other, termsOf(before)) || !same(another, before) {
				t.Fatalf("a call changed an answer that was given before it: %v, %v", other, few(another))
			}
		}
	}
}

// Rule 6: nothing is kept from call to call but the map's own state: what another one was refused neither.
func TestNothingIsKept(t *testing.T) {
	r := source(45)
	pair := numbers(1, 1, 0, 0, 1)
	for _, s := range given() {
		w := twinOf(t, s)
		for range 5 {
			w.step(t, &r)
			m := made(t, 2)
			apply(t, m, "h", 0)
			apply(t, m, "cx", 0, 1)
			is(t, m, pair)
		}
	}
	for range 3 {
		a, b := made(t, 1), made(t, 1)
		apply(t, a, "x", 0)
		zero, _ := dense.Zero(1)
		is(t, b, zero)
	}
}

// What is told hangs on no order in which a map is gone through: the same calls tell the same, again and again.
func TestAgainAndAgain(t *testing.T) {
	for n := uint64(1); n <= 20; n++ {
		first := source(50 + n)
		w := twinOf(t, first.anyState(5))
		for range 10 {
			w.step(t, &first)
		}
		for range 10 {
			s := source(50 + n)
			again := twinOf(t, s.anyState(5))
			for range 10 {
				again.step(t, &s)
			}
			is(t, again.m, w.s)
		}
	}
}
