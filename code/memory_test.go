package code_test

import (
	"math"
	"slices"
	"sync"
	"testing"

	"cubit/api"
	"cubit/code"
)

// spare is what stands in the room behind lists, and must stay there.
var spare = api.Pauli{N: 77, X: 77, Z: 77, Phase: 77}

// roomy is a list in memory of its own, with room behind it and marks in it.
func roomy(l []api.Pauli) []api.Pauli {
	return append(append(make([]api.Pauli, 0, len(l)+2), l...), spare, spare)[:len(l)]
}

func roomyCode(c api.Code) api.Code {
	c.Gens, c.X, c.Z = roomy(c.Gens), roomy(c.X), roomy(c.Z)
	return c
}

// stays asks that a roomy code is as it was, its spare room included.
func stays(t *testing.T, what string, c, want api.Code) {
	t.Helper()
	if !same(c, want) {
		t.Fatalf("%s: %v became %v", what, want, c)
	}
	for _, l := range lists(&c) {
		if !slices.Equal((*l)[len(*l):cap(*l)], []api.Pauli{spare, spare}) {
			t.Fatalf("%s: the room behind a list of %v became %v", what, want, (*l)[:cap(*l)])
		}
	}
}

// spoil writes over all that a code's lists hold, with their spare room.
func spoil(c api.Code) {
	for _, l := range lists(&c) {
		all := (*l)[:cap(*l)]
		for i := range all {
			all[i] = spare
		}
	}
}

// given are codes for these tests: such as are right, and such as aren't.
func given(t *testing.T) []api.Code {
	s := source(51)
	all := rightCodes(t)
	for range 300 {
		n := 1 + s.below(8)
		c := s.code(n, s.below(n+1))
		for range s.below(3) {
			c = s.shaped(c)
		}
		all = append(all, c)
	}
	return append(all, api.Code{}, alone("XX", "XX"), alone("XXI", "ZZI", "YYI"))
}

// Rule 5: codes that are handed in stay, with the room behind their lists, whether they are taken or refused.
func TestCodesStay(t *testing.T) {
	for _, c := range given(t) {
		mine := roomyCode(c)
		code.Check(mine)
		stays(t, "Check", mine, c)
		n := min(max(c.N, 0), rows)
		for _, p := range []api.Pauli{{N: n}, {N: n, X: 1<<n - 1, Phase: 1}, {N: n + 1}, {N: n, Phase: 4}} {
			code.Syndrome(mine, p)
			stays(t, "Syndrome", mine, c)
			code.Logical(mine, p)
			stays(t, "Logical", mine, c)
		}
		code.Distance(mine)
		stays(t, "Distance", mine, c)
		for _, syndrome := range []uint64{0, 1, math.MaxUint64} {
			code.Decode(mine, syndrome)
			stays(t, "Decode", mine, c)
		}
	}
}

// Rule 5: lists of one code that lie in one piece of memory, or are the same one, are taken as any others.
func TestListsInOneMemory(t *testing.T) {
	for _, c := range rightCodes(t) {
		all := slices.Concat(c.Gens, c.X, c.Z)
		was := slices.Clone(all)
		g, k := len(c.Gens), len(c.X)
		mine := api.Code{N: c.N, Gens: all[:g], X: all[g : g+k], Z: all[g+k:]}
		p := api.Pauli{N: c.N, X: 1, Z: 1}
		want, _ := code.Syndrome(c, p)
		if e := code.Check(mine); e != api.OK || !slices.Equal(all, was) {
			t.Fatalf("Check(%v): %d, and then %v", c, e, all)
		}
		hasSyndrome(t, mine, p, want)
		code.Distance(mine)
		code.Decode(mine, 0)
		if !slices.Equal(all, was) {
			t.Fatalf("%v became %v", was, all)
		}
		mine.Z = mine.X
		if e := code.Check(mine); (e == api.OK) != (k == 0) {
			t.Fatalf("X for Z in %v: %d", c, e)
		}
	}
}

// Rule 5: what Named answers is new memory at each call, and its lists share none.
func TestNamedIsTheCallers(t *testing.T) {
	for _, name := range names() {
		first, second := named(t, name), named(t, name)
		want := copied(first)
		for i, l := range lists(&first) {
			*l = append(*l, spare)
			(*l)[0] = spare
			for j, other := range lists(&first) {
				was := *lists(&want)[j]
				if j > i && !slices.Equal(*other, was) {
					t.Fatalf("%s: two lists share memory", name)
				}
			}
		}
		spoil(first)
		if !same(second, want) || !same(named(t, name), want) {
			t.Fatalf("%s: two answers share memory", name)
		}
		third := named(t, name)
		for i, l := range lists(&third) {
			spoil(api.Code{X: *l})
			for j, other := range lists(&third) {
				if j > i && !slices.Equal(*other, *lists(&want)[j]) {
					t.Fatalf("%s: two lists share memory", name)
				}
			}
		}
	}
}

// Rule 6: nothing is kept: a code that is written over between calls is looked at anew.
func TestNothingIsKept(t *testing.T) {
	mine := named(t, "five")
	was := copied(mine)
	x, z := spelled("XIIII"), spelled("ZIIII")
	for range 3 {
		hasSyndrome(t, mine, x, 8)
		hasSyndrome(t, mine, z, 5)
		hasDistance(t, mine, 3)
		mine.Gens[0], mine.Gens[3] = mine.Gens[3], mine.Gens[0]
		hasSyndrome(t, mine, x, 1)
		decodes(t, mine, 1, x)
		mine.Gens[0].Phase = 1
		if e := code.Check(mine); e != api.ErrCode {
			t.Fatalf("an odd Phase: %d", e)
		}
		mine.Gens[0] = mine.Gens[3]
		if _, e := code.Distance(mine); e != api.ErrCode {
			t.Fatalf("one generator twice: %d", e)
		}
		copy(mine.Gens, was.Gens)
		mine.X[0], mine.Z[0] = mine.Z[0], mine.X[0]
		hasLogical(t, mine, spelled("XXXXX"), spelled("Z"))
		mine.X[0], mine.Z[0] = mine.Z[0], mine.X[0]
		hasLogical(t, mine, spelled("XXXXX"), spelled("X"))
	}
}

// Rule 5, 6: calls on one code at the same time tell what they tell alone.
func TestAtTheSameTime(t *testing.T) {
	c := named(t, "steane")
	var group sync.WaitGroup
	for range 4 {
		group.Go(func() {
			for syndrome := range uint64(64) {
				p, e := code.Decode(c, syndrome)
				if r, f := code.Syndrome(c, p); r != syndrome || e != api.OK || f != api.OK {
					t.Errorf("Decode(steane, %d): %v, %d", syndrome, p, e)
				}
			}
		})
	}
	group.Wait()
}
