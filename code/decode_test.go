package code_test

import (
	"testing"

	"cubit/api"
)

// P23.1: Distance and Decode of the named codes at all numbers, held against the order of strings written out.
func TestNamedInOrder(t *testing.T) {
	for name, want := range map[string]int{"bit3": 1, "phase3": 1, "five": 3, "steane": 3} {
		c := named(t, name)
		if got := againstOrder(t, c, inOrder(c.N)); got != want {
			t.Errorf("%s has the distance %d, not %d", name, got, want)
		}
	}
}

// P23.1: likewise codes of other kinds.
func TestKindsInOrder(t *testing.T) {
	all := orders()
	for _, c := range []struct {
		c    api.Code
		want int
	}{
		{two(), 2}, {three(), 3}, {bare(1), 1}, {bare(4), 1}, {bare(8), 1}, {alone("Z"), 0}, {alone("XX", "ZZ"), 0},
		{alone("XZIII", "ZXZII", "IZXZI", "IIZXZ", "IIIZX"), 0},
		{alone("XZIIIIIZ", "ZXZIIIII", "IZXZIIII", "IIZXZIII", "IIIZXZII", "IIIIZXZI", "IIIIIZXZ", "ZIIIIIZX"), 0},
		{api.Code{N: 8, Gens: list("ZZIIIIII", "IZZIIIII", "IIZZIIII", "IIIZZIII", "IIIIZZII", "IIIIIZZI", "IIIIIIZZ"), X: list("XXXXXXXX"), Z: list("IIIIZIII")}, 1},
		{api.Code{N: 8, Gens: list("XXXXXXXX", "ZZZZZZZZ"), X: list("XXIIIIII", "XIXIIIII", "XIIXIIII", "XIIIXIII", "XIIIIXII", "XIIIIIXI"), Z: list("IZIIIIIZ", "IIZIIIIZ", "IIIZIIIZ", "IIIIZIIZ", "IIIIIZIZ", "IIIIIIZZ")}, 2},
	} {
		if got := againstOrder(t, c.c, all[c.c.N]); got != c.want {
			t.Errorf("%v has the distance %d, not %d", c.c, got, c.want)
		}
	}
}

// P23.1: likewise many codes on up to eight qubits, with generators of all numbers.
func TestManyInOrder(t *testing.T) {
	s, all := source(21), orders()
	var distances [4]int
	for _, size := range sizes(search) {
		n := size[0]
		codes := [search + 1]int{0, 20, 20, 20, 20, 10, 8, 6, 4}[n]
		if n-size[1] == 1 {
			codes += 10
		}
		for range codes {
			distances[againstOrder(t, s.code(n, size[1]), all[n])]++
		}
	}
	for range 6 {
		c := s.mixed(s.turnedByQubits(pick(&s, named(t, "five"), named(t, "steane"), three())))
		distances[againstOrder(t, c, all[c.N])]++
	}
	if distances[0] < 50 || distances[1] < 50 || distances[2] < 10 || distances[3] < 6 {
		t.Errorf("%v", distances)
	}
}
