package cut_test

import (
	"slices"
	"testing"

	"cubit/api"
	"cubit/cut"
)

// spare is what stands in the room behind lists, and must stay there.
var spare = api.Ring{A: 77, B: 77i}

// roomy is a state in memory of its own, with room behind its list and marks in it.
func roomy(s api.State) api.State {
	length := len(s.Amps)
	s.Amps = append(append(make([]api.Ring, 0, length+2), s.Amps...), spare, spare)[:length]
	return s
}

// stays asks that roomy's state is as it was, its spare room included.
func stays(t *testing.T, what string, s, want api.State) {
	t.Helper()
	if !same(s, want) || !slices.Equal(s.Amps[len(s.Amps):cap(s.Amps)], []api.Ring{spare, spare}) {
		t.Fatalf("%s: %v became %v", what, few(want), s.Amps[:cap(s.Amps)])
	}
}

// spoil writes over all that a state's list holds, with its spare room.
func spoil(s api.State) {
	list := s.Amps[:cap(s.Amps)]
	for x := range list {
		list[x] = api.Ring{A: -9, B: 9i}
	}
}

// own is a state in memory of its own.
func own(s api.State) api.State {
	s.Amps = slices.Clone(s.Amps)
	return s
}

// given are states of up to three qubits for these tests: such as are taken, and such as are refused (but none with NaN, which is unlike itself).
func given(t *testing.T) []api.State {
	s := source(61)
	list := []api.State{numbers(1, 2, 0), numbers(0, 0, 1, 2), {}, {N: 1}, elements(0, api.Ring{A: 0.5}, number(1)), numbers(61, 1, 0)}
	for n := range 4 {
		for mask := range uint64(1 << n) {
			list = append(list, states(t, &s, n, mask)...)
		}
	}
	return list
}

// Rule 5: states that are handed in stay, with the room behind them, whether they are taken or refused.
func TestStatesStay(t *testing.T) {
	s := source(62)
	list := given(t)
	for _, a := range list {
		mine := roomy(a)
		for mask := range uint64(9) {
			cut.Splits(mine, mask)
			stays(t, "Splits", mine, a)
			cut.Parts(mine, mask)
			stays(t, "Parts", mine, a)
			b := pick(&s, list...)
			yours := roomy(b)
			cut.Join(mine, yours, mask)
			stays(t, "Join", mine, a)
			stays(t, "Join", yours, b)
			cut.Join(mine, mine, mask)
			stays(t, "Join of one twice", mine, a)
		}
	}
}

// Rule 5: what Parts answers shares no memory with the state, nor do both parts, nor two answers.
func TestPartsAreTheCallers(t *testing.T) {
	tried := 0
	for _, s := range given(t) {
		for mask := range uint64(8) {
			mine := roomy(s)
			a, b, e := cut.Parts(mine, mask)
			if e != api.OK {
				continue
			}
			tried++
			c, d, _ := cut.Parts(mine, mask)
			wantA, wantB := own(a), own(b)
			spoil(a)
			stays(t, "Parts", mine, s)
			if !same(b, wantB) || !same(c, wantA) || !same(d, wantB) {
				t.Fatalf("Parts of %v by %b: its first part shares memory", s, mask)
			}
			spoil(b)
			stays(t, "Parts", mine, s)
			if !same(c, wantA) || !same(d, wantB) {
				t.Fatalf("Parts of %v by %b: its second part shares memory", s, mask)
			}
			spoil(d)
			spoil(mine)
			if !same(c, wantA) {
				t.Fatalf("Parts of %v by %b: its first part shares memory with the state", s, mask)
			}
			if _, d, _ = cut.Parts(s, mask); !same(d, wantB) {
				t.Fatalf("Parts of %v by %b: behind spoilt answers comes %v", s, mask, d)
			}
			mine = roomy(s)
			_, b, _ = cut.Parts(mine, mask)
			spoil(mine)
			if !same(b, wantB) {
				t.Fatalf("Parts of %v by %b: its second part shares memory with the state", s, mask)
			}
		}
	}
	if tried < 300 {
		t.Errorf("tried %d", tried)
	}
}

// Rule 5: nor does what Join answers: of states with a number of no qubits too, where it is one of them.
func TestJoinedStatesAreTheCallers(t *testing.T) {
	s := source(63)
	list := given(t)
	tried := 0
	for _, a := range list {
		for _, b := range []api.State{pick(&s, list...), numbers(0, 1), numbers(0, 1, 0), numbers(2, 1)} {
			for mask := range uint64(8) {
				mine, yours := roomy(a), roomy(b)
				first, e := cut.Join(mine, yours, mask)
				second, _ := cut.Join(mine, yours, mask)
				if e != api.OK {
					continue
				}
				tried++
				want := own(first)
				spoil(first)
				stays(t, "Join", mine, a)
				stays(t, "Join", yours, b)
				if third, _ := cut.Join(mine, yours, mask); !same(second, want) || !same(third, want) {
					t.Fatalf("Join of %v and %v by %b: answers share memory", a, b, mask)
				}
				spoil(mine)
				spoil(yours)
				if !same(second, want) {
					t.Fatalf("Join of %v and %v by %b: the answer shares memory with what was joined", a, b, mask)
				}
			}
		}
	}
	if tried < 300 {
		t.Errorf("tried %d", tried)
	}
}

// Rule 6: nothing is kept: states that are written over between calls are looked at anew.
func TestNothingIsKept(t *testing.T) {
	mine := numbers(0, 0, 0, 0, 0)
	for _, list := range [][4]int64{{1, 2, 3, 6}, {0, 2, 0, 6}, {1, 2, 3, 4}, {1, 2, 3, 6}, {5, 0, 0, 0}} {
		for x, n := range list {
			mine.Amps[x] = number(n)
		}
		switch {
		case list[0]*list[3] != list[1]*list[2]:
			isNone(t, mine, 1)
		case list[0] == 0:
			hasParts(t, mine, 1, numbers(0, 0, list[1]), numbers(0, list[1], list[3]))
		default:
			hasParts(t, mine, 1, numbers(0, list[0], list[1]), numbers(0, list[0], list[2]))
		}
		joins(t, mine, numbers(0, 2), 3, numbers(0, 2*list[0], 2*list[1], 2*list[2], 2*list[3]))
	}
	isRefused(t, numbers(0, 0, 0, 0, 0), 1, api.ErrNull)
}
