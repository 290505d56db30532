package code_test

import (
	"cmp"
	"math"
	"slices"
	"testing"

	"cubit/api"
	"cubit/code"
)

// The chapter's words once more, over letters, qubit 0 as the first one. No call of a layer is asked.

// lettersOf is a right string in letters.
func lettersOf(p api.Pauli) string {
	letters := make([]byte, p.N)
	for j := range letters {
		letters[j] = "IXZY"[p.X>>j&1+p.Z>>j&1*2]
	}
	return string(letters)
}

// allLetters are the letters of a list's strings.
func allLetters(list []api.Pauli) []string {
	var all []string
	for _, p := range list {
		all = append(all, lettersOf(p))
	}
	return all
}

// commutes tells whether two strings of letters differ on an even number of qubits, where none of them is I.
func commutes(a, b string) bool {
	even := true
	for j := range len(a) {
		if a[j] != 'I' && b[j] != 'I' && a[j] != b[j] {
			even = !even
		}
	}
	return even
}

// weightOf is the number of letters that aren't I.
func weightOf(letters string) int {
	n := 0
	for _, l := range letters {
		if l != 'I' {
			n++
		}
	}
	return n
}

// product is the one of two strings of letters, but for the Phase.
func product(a, b string) string {
	letters := make([]byte, len(a))
	for j := range letters {
		switch {
		case a[j] == b[j]:
			letters[j] = 'I'
		case a[j] == 'I':
			letters[j] = b[j]
		case b[j] == 'I':
			letters[j] = a[j]
		default:
			letters[j] = 'X' ^ 'Y' ^ 'Z' ^ a[j] ^ b[j]
		}
	}
	return string(letters)
}

// rightString tells whether a string is one as each of a code of n qubits must be.
func rightString(p api.Pauli, n int) bool {
	for j := n; j < 64; j++ {
		if p.X>>j&1 == 1 || p.Z>>j&1 == 1 {
			return false
		}
	}
	return p.N == n && (p.Phase == 0 || p.Phase == 2)
}

// isRight tells whether a code is right.
func isRight(c api.Code) bool {
	if c.N < 1 || c.N > rows || len(c.Gens)+len(c.X) != c.N || len(c.Z) != len(c.X) {
		return false
	}
	for _, l := range [][]api.Pauli{c.Gens, c.X, c.Z} {
		for _, p := range l {
			if !rightString(p, c.N) {
				return false
			}
		}
	}
	return commuteAsTheyMust(allLetters(c.Gens), allLetters(c.X), allLetters(c.Z)) && noneIsAProduct(allLetters(c.Gens))
}

func commuteAsTheyMust(gens, xs, zs []string) bool {
	for _, g := range gens {
		for _, l := range [][]string{gens, xs, zs} {
			for _, p := range l {
				if !commutes(g, p) {
					return false
				}
			}
		}
	}
	for i := range xs {
		for j := range xs {
			if !commutes(xs[i], xs[j]) || !commutes(zs[i], zs[j]) || commutes(xs[i], zs[j]) != (i != j) {
				return false
			}
		}
	}
	return true
}

// noneIsAProduct tells whether no product of one or more is the string of identities. Few are multiplied in all ways; of many each is held against a group, told by one member for each first letter.
func noneIsAProduct(gens []string) bool {
	if len(gens) == 0 {
		return true
	}
	if len(gens) <= 6 {
		return noneByAllProducts(gens)
	}
	return noneByFirstLetters(gens)
}

func noneByAllProducts(gens []string) bool {
	for some := 1; some < 1<<len(gens); some++ {
		p := product(gens[0], gens[0])
		for i, g := range gens {
			if some>>i&1 == 1 {
				p = product(p, g)
			}
		}
		if weightOf(p) == 0 {
			return false
		}
	}
	return true
}

// noneByFirstLetters: of strings that begin at one place with one letter a member takes out the place; two members there have unlike letters, and their product is the third.
func noneByFirstLetters(gens []string) bool {
	members := make([][]string, len(gens[0]))
	for _, p := range gens {
		place := 0
		for ; place < len(p); place++ {
			for _, m := range members[place] {
				if p[place] == m[place] {
					p = product(p, m)
				}
			}
			if p[place] == 'I' {
				continue
			}
			if len(members[place]) == 2 {
				p = product(product(p, members[place][0]), members[place][1])
				continue
			}
			members[place] = append(members[place], p)
			break
		}
		if place == len(p) {
			return false
		}
	}
	return true
}

// Both ways of the words tell the same of generators.
func TestWordsAgree(t *testing.T) {
	s := source(1)
	var yes, no int
	for range 4000 {
		n := 1 + s.below(6)
		var gens []string
		for range 1 + s.below(n+2) {
			gens = append(gens, lettersOf(s.string(n, 0)))
		}
		want := noneByAllProducts(gens)
		if noneByFirstLetters(gens) != want {
			t.Fatalf("%q: %v", gens, want)
		}
		if want {
			yes++
		} else {
			no++
		}
	}
	if yes < 500 || no < 500 {
		t.Errorf("%d and %d", yes, no)
	}
}

// A seen is what the words tell of a string: its Syndrome, whether it does something, and what.
type seen struct {
	syndrome uint64
	acts     bool
	logical  api.Pauli
}

// A view is a code in letters.
type view struct{ gens, xs, zs []string }

func viewOf(c api.Code) view { return view{allLetters(c.Gens), allLetters(c.X), allLetters(c.Z)} }

// sees tells of a string what the words do.
func (v view) sees(letters string) seen {
	r := seen{logical: api.Pauli{N: len(v.xs)}}
	for i, g := range v.gens {
		if !commutes(g, letters) {
			r.syndrome += 1 << i
		}
	}
	if r.syndrome != 0 {
		return seen{syndrome: r.syndrome}
	}
	for j := range v.xs {
		if !commutes(v.zs[j], letters) {
			r.logical.X += 1 << j
		}
		if !commutes(v.xs[j], letters) {
			r.logical.Z += 1 << j
		}
	}
	r.acts = r.logical.X != 0 || r.logical.Z != 0
	return r
}

// inOrder are all strings on n qubits in the chapter's order, sorted by it.
func inOrder(n int) []api.Pauli {
	all := strings(n, 0)
	slices.SortFunc(all, func(a, b api.Pauli) int {
		return cmp.Or(cmp.Compare(weightOf(lettersOf(a)), weightOf(lettersOf(b))), cmp.Compare(a.X, b.X), cmp.Compare(a.Z, b.Z))
	})
	return all
}

// orders are those of all numbers of qubits up to that on which Distance and Decode look.
func orders() [][]api.Pauli {
	var all [][]api.Pauli
	for n := range search + 1 {
		all = append(all, inOrder(n))
	}
	return all
}

// againstOrder holds Distance and Decode, of all numbers that may be, against the order of strings, which it goes over once. It tells the distance.
func againstOrder(t *testing.T, c api.Code, order []api.Pauli) int {
	t.Helper()
	v, distance := viewOf(c), 0
	first := make(map[uint64]api.Pauli)
	for _, p := range order {
		r := v.sees(lettersOf(p))
		if _, there := first[r.syndrome]; !there {
			first[r.syndrome] = p
		}
		if r.acts && distance == 0 {
			distance = weightOf(lettersOf(p))
		}
	}
	hasDistance(t, c, distance)
	if len(first) != 1<<len(c.Gens) {
		t.Fatalf("%v: %d numbers come", c, len(first))
	}
	for syndrome, p := range first {
		decodes(t, c, syndrome, p)
	}
	for _, beyond := range []uint64{1 << len(c.Gens), 1<<len(c.Gens) | 1, 1<<63 | 1, math.MaxUint64} {
		if p, e := code.Decode(c, beyond); p != (api.Pauli{}) || e != api.ErrArg {
			t.Errorf("Decode(%v, %d): %v, %d", c, beyond, p, e)
		}
	}
	return distance
}

// isChecked asks for what Check tells of a code, and tells whether it is right.
func isChecked(t *testing.T, c api.Code) bool {
	t.Helper()
	want := api.OK
	if !isRight(c) {
		want = api.ErrCode
	}
	if e := code.Check(c); e != want {
		t.Fatalf("Check(%v): %d, not %d", c, e, want)
	}
	return want == api.OK
}

// P23.1: all codes of one qubit, with strings of all Phases and some that are wrong.
func TestAllCodesOfOneQubit(t *testing.T) {
	some := append(strings(1, -2, -1, 0, 1, 2, 3, 4), api.Pauli{}, api.Pauli{N: 1, X: 2}, api.Pauli{N: 1, Z: 3}, api.Pauli{N: 2, X: 1}, api.Pauli{N: 2, Phase: 2})
	right := 0
	count := func(c api.Code) {
		if isChecked(t, c) {
			right++
		}
	}
	for _, p := range some {
		count(api.Code{N: 1, Gens: []api.Pauli{p}})
		for _, q := range some {
			count(api.Code{N: 1, X: []api.Pauli{p}, Z: []api.Pauli{q}})
		}
	}
	// Three letters with two Phases are generators, and six pairs of letters with four pairs of Phases do.
	if right != 6+24 {
		t.Errorf("%d are right", right)
	}
}

// P23.1: all codes of two qubits, with strings of these Phases: Check, and Distance and Decode of all that are right.
func TestAllCodesOfTwoQubits(t *testing.T) {
	some, plain, order := strings(2, 0, 1, 2), strings(2, 0), inOrder(2)
	var right [3]int
	count := func(c api.Code) {
		if isChecked(t, c) {
			againstOrder(t, c, order)
			right[len(c.X)]++
		}
	}
	for _, p := range some {
		for _, q := range some {
			count(api.Code{N: 2, Gens: []api.Pauli{p, q}})
			for _, g := range plain {
				count(api.Code{N: 2, Gens: []api.Pauli{g}, X: []api.Pauli{p}, Z: []api.Pauli{q}})
			}
		}
	}
	for _, a := range plain {
		for _, b := range plain {
			for _, c := range plain {
				for _, d := range plain {
					count(api.Code{N: 2, X: []api.Pauli{a, b}, Z: []api.Pauli{c, d}})
				}
			}
		}
	}
	// A string that isn't that of identities commutes with six others beside itself. One of those and its product with the generator fall away for X, and half of those that commute with the generator are left for Z. There are 720 ways to exchange strings on two qubits so that commuting stays as it is.
	if want := [3]int{15 * 6 * 4, 15 * 6 * 4 * 4, 720}; right != want {
		t.Errorf("%d are right, not %d", right, want)
	}
}
