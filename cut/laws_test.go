package cut_test

import (
	"testing"

	"cubit/amp"
	"cubit/api"
	"cubit/cut"
	"cubit/dense"
	"cubit/gate"
	"cubit/root"
)

// A pair is two states and the qubits of the first one.
type pair struct {
	a, b api.State
	mask uint64
}

// pairs are some that Join may take, of n qubits together.
func pairs(s *source, n int) []pair {
	var list []pair
	for in := range n + 1 {
		for _, length := range []int{1, 5, 13, 24, 26, 54} {
			for _, k := range [][2]int{{0, 0}, {1, 0}, {2, 5}, {30, 30}, {30, 31}, {0, power}} {
				other := pick(s, length, 2, 53-min(length, 53))
				list = append(list, pair{s.state(in, length, k[0]), s.state(n-in, other, k[1]), s.maskOf(n, in)})
			}
		}
	}
	return list
}

// isNull tells whether all elements are nought.
func isNull(s api.State) bool { return same(s, null(s.N)) }

// P22.2: what is joined splits by the mask and by all other qubits, where that isn't refused.
func TestWhatIsJoinedSplits(t *testing.T) {
	s := source(31)
	told, refused := 0, 0
	for n := range most + 1 {
		for _, l := range pairs(&s, n) {
			z, e := cut.Join(l.a, l.b, l.mask)
			if e != api.OK || isNull(z) {
				continue
			}
			for _, mask := range []uint64{l.mask, all(n) &^ l.mask} {
				yes, e := cut.Splits(z, mask)
				switch {
				case e == api.ErrBig:
					refused++
				case !yes || e != api.OK:
					t.Fatalf("%v and %v joined by %b: Splits by %b tells %v, %d", few(l.a), few(l.b), l.mask, mask, yes, e)
				default:
					told++
				}
			}
		}
	}
	if told < 500 || refused < 100 {
		t.Errorf("told %d, refused %d", told, refused)
	}
}

// amplitude is that of a basis state.
func amplitude(t *testing.T, s api.State, x int) api.Amp {
	t.Helper()
	a, e := dense.Amp(s, uint64(x))
	if e != api.OK {
		t.Fatalf("Amp of %v at %d: %d", few(s), x, e)
	}
	return a
}

// holdParts asks for P22.3, and tells how many amplitudes were compared.
func holdParts(t *testing.T, s api.State, mask uint64) int {
	t.Helper()
	a, b, e := cut.Parts(s, mask)
	if e != api.OK {
		return 0
	}
	j, e := cut.Join(a, b, mask)
	if e != api.OK {
		return 0
	}
	if j.N != s.N {
		t.Fatalf("the parts of %v by %b are joined to %v", few(s), mask, few(j))
	}
	pivot := 0
	for s.Amps[pivot] == (api.Ring{}) {
		pivot++
	}
	factor := amplitude(t, s, pivot)
	compared := 0
	for x := range s.Amps {
		want, e := amp.Mul(amplitude(t, s, x), factor)
		if e != api.OK {
			continue
		}
		compared++
		if got := amplitude(t, j, x); got != want {
			t.Fatalf("the parts of %v by %b are joined to %v at %d, not %v", few(s), mask, got, x, want)
		}
	}
	return compared
}

// P22.3: the parts joined are the state times the pivot's amplitude.
func TestThePartsMakeTheWhole(t *testing.T) {
	s := source(32)
	compared := 0
	for n := range most + 1 {
		for range 1 + 16>>n {
			mask := s.mask(n)
			for _, z := range states(t, &s, n, mask) {
				compared += holdParts(t, z, mask) + holdParts(t, z, all(n)&^mask) + holdParts(t, z, 0) + holdParts(t, z, all(n))
			}
			for _, length := range []int{1, 4, 6} {
				compared += holdParts(t, s.product(n, mask, length, s.below(30)), mask)
			}
		}
	}
	if compared < 20000 {
		t.Errorf("compared %d", compared)
	}
}

// P22.4: over no qubits, and over all, each state that isn't null splits, however great its parts are.
func TestNoQubitsAndAll(t *testing.T) {
	s := source(33)
	for n := range most + 1 {
		for _, z := range states(t, &s, n, s.mask(n)) {
			if isNull(z) {
				isRefused(t, z, 0, api.ErrNull)
				isRefused(t, z, all(n), api.ErrNull)
				continue
			}
			pivot := 0
			for z.Amps[pivot] == (api.Ring{}) {
				pivot++
			}
			alone := formed(elements(z.K, z.Amps[pivot]))
			hasParts(t, z, 0, alone, z)
			hasParts(t, z, all(n), z, alone)
		}
	}
}

// P22.4: the weight of a joined state is the product of the weights, where none is refused.
func TestWeights(t *testing.T) {
	s := source(34)
	told := 0
	for n := range most + 1 {
		for _, l := range pairs(&s, n) {
			z, e := cut.Join(l.a, l.b, l.mask)
			if e != api.OK {
				continue
			}
			a, e1 := dense.Weight(l.a)
			b, e2 := dense.Weight(l.b)
			both, e3 := dense.Weight(z)
			if e1 != api.OK || e2 != api.OK || e3 != api.OK {
				continue
			}
			told++
			if want, e := root.Mul(a, b); both != want || e != api.OK {
				t.Fatalf("%v and %v weigh %v and %v, joined by %b %v, not %v, %d", few(l.a), few(l.b), a, b, l.mask, both, want, e)
			}
		}
	}
	if told < 500 {
		t.Errorf("told %d", told)
	}
}

// laid is a step on the qubits of a mask.
func laid(g step, mask uint64) step {
	var places []int
	for j := range most {
		if mask>>j&1 == 1 {
			places = append(places, j)
		}
	}
	z := step{name: g.name}
	for _, q := range g.qubits {
		z.qubits = append(z.qubits, places[q])
	}
	return z
}

// steps are some gates on n qubits, with a few halvings.
func (s *source) steps(n, many int) []step {
	var list []step
	for halvings := 0; len(list) < many && n > 0; {
		g := step{name: pick(s, gate.Names()...)}
		if gate.Arity(g.name) > n || halvings+gate.Halves(g.name) > 8 {
			continue
		}
		halvings += gate.Halves(g.name)
		for len(g.qubits) < gate.Arity(g.name) {
			q, there := s.below(n), false
			for _, other := range g.qubits {
				there = there || other == q
			}
			if !there {
				g.qubits = append(g.qubits, q)
			}
		}
		list = append(list, g)
	}
	return list
}

// P22.1, P22.2: circuits that don't share qubits make the state that Join makes of theirs, bit by bit; a gate over both makes none.
func TestCircuitsApart(t *testing.T) {
	s := source(35)
	for n := 1; n <= most; n++ {
		for range 12 {
			mask := s.mask(n)
			in, out := s.steps(ones(mask), 8), s.steps(n-ones(mask), 8)
			var both []step
			for _, g := range in {
				both = append(both, laid(g, mask))
			}
			for _, g := range out {
				both = append(both, laid(g, all(n)&^mask))
			}
			whole := behind(t, n, both...)
			joins(t, behind(t, ones(mask), in...), behind(t, n-ones(mask), out...), mask, whole)
			tells(t, whole, mask, true, api.OK)
			tells(t, whole, all(n)&^mask, true, api.OK)
			if holdParts(t, whole, mask) != 1<<n {
				t.Errorf("amplitudes of %v weren't compared", few(whole))
			}
		}
	}
	for n := 2; n <= most; n++ {
		for range 12 {
			mask := s.maskOf(n, 1+s.below(n-1))
			first, last := laid(step{"x", []int{s.below(ones(mask))}}, mask).qubits[0], laid(step{"x", []int{s.below(n - ones(mask))}}, all(n)&^mask).qubits[0]
			together := behind(t, n, step{"h", []int{first}}, step{"t", []int{first}}, step{"cx", []int{first, last}})
			isNone(t, together, mask)
			isNone(t, together, all(n)&^mask)
			hasMask := uint64(1)<<first | 1<<last
			tells(t, together, hasMask, true, api.OK)
			tells(t, together, mask|hasMask, true, api.OK)
			tells(t, together, mask&^hasMask, true, api.OK)
		}
	}
}
