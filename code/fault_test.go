package code_test

import (
	"testing"

	"cubit/api"
	"cubit/code"
)

// againstWords holds Syndrome and Logical of a right string, with this Phase, against the words.
func againstWords(t *testing.T, c api.Code, v view, p api.Pauli) seen {
	t.Helper()
	want := v.sees(lettersOf(p))
	hasSyndrome(t, c, p, want.syndrome)
	if want.syndrome != 0 {
		breaks(t, c, p)
	} else {
		hasLogical(t, c, p, want.logical)
	}
	return want
}

// sizes are all pairs of a number of qubits up to so many and one of generators.
func sizes(most int) [][2]int {
	var all [][2]int
	for n := 1; n <= most; n++ {
		for gens := range n + 1 {
			all = append(all, [2]int{n, gens})
		}
	}
	return all
}

// P23.1: what is told of every string on up to three qubits, with each Phase, and of all strings on up to five.
func TestAllStrings(t *testing.T) {
	s := source(11)
	var broke, acted, neither int
	for _, size := range sizes(5) {
		n, gens := size[0], size[1]
		codes, all := 40, strings(n, 0, 1, 2, 3)
		if n > 3 {
			codes, all = 3, strings(n, s.below(4))
		}
		for range codes {
			c := s.code(n, gens)
			v := viewOf(c)
			for _, p := range all {
				switch r := againstWords(t, c, v, p); {
				case r.syndrome != 0:
					broke++
				case r.acts:
					acted++
				default:
					neither++
				}
			}
		}
	}
	if broke < 10000 || acted < 10000 || neither < 3000 {
		t.Errorf("%d break, %d do something, %d don't", broke, acted, neither)
	}
}

// unbroken is a string that breaks no generator, with any Phase: a product of some strings of the code.
func (s *source) unbroken(c api.Code) api.Pauli {
	p := api.Pauli{N: c.N}
	for _, l := range [][]api.Pauli{c.Gens, c.X, c.Z} {
		if s.below(4) == 0 {
			continue
		}
		for _, q := range l {
			if s.below(2) == 0 {
				p = s.times(p, q)
			}
		}
	}
	p.Phase = s.below(4)
	return p
}

// P23.1: many strings on any number of qubits, with each Phase.
func TestManyStrings(t *testing.T) {
	s := source(12)
	var broke, acted, neither, high int
	for range 250 {
		n := s.qubits()
		c := s.code(n, pick(&s, 0, n, s.below(n+1), s.below(n+1), n-1))
		v := viewOf(c)
		for range 12 {
			r := againstWords(t, c, v, pick(&s, s.string(n, 0, 1, 2, 3), s.unbroken(c), s.unbroken(c)))
			switch {
			case r.syndrome != 0:
				broke++
			case r.acts:
				acted++
			default:
				neither++
			}
			if (r.syndrome|r.logical.X|r.logical.Z)>>63 == 1 {
				high++
			}
		}
	}
	if broke < 300 || acted < 300 || neither < 300 || high < 10 {
		t.Errorf("%d break, %d do something, %d don't, %d have bit 63", broke, acted, neither, high)
	}
}

// P23.1: the code's own strings do what they are for: none breaks a generator, and each does one thing to one logical qubit.
func TestOwnStrings(t *testing.T) {
	s := source(13)
	for _, n := range []int{1, 2, 5, 8, 33, 63, rows} {
		for _, gens := range []int{0, n / 2, n - 1, n} {
			c := s.code(n, gens)
			k := n - gens
			for _, g := range c.Gens {
				hasSyndrome(t, c, g, 0)
				hasLogical(t, c, g, api.Pauli{N: k})
			}
			for j := range k {
				hasLogical(t, c, c.X[j], api.Pauli{N: k, X: 1 << j})
				hasLogical(t, c, c.Z[j], api.Pauli{N: k, Z: 1 << j})
			}
			hasLogical(t, c, api.Pauli{N: n}, api.Pauli{N: k})
		}
	}
}

// P23.1: the greatest codes: X on each of 64 qubits is a generator, and then what is broken is Z, qubit by qubit.
func TestSixtyFour(t *testing.T) {
	whole, none := api.Code{N: rows}, bare(rows)
	for j := range rows {
		whole.Gens = append(whole.Gens, api.Pauli{N: rows, X: 1 << j, Phase: 2 * (j % 2)})
	}
	for _, number := range []uint64{0, 1, 1 << 63, 1<<63 | 1, 1<<64 - 1, 0x123456789abcdef0} {
		z := api.Pauli{N: rows, Z: number, Phase: 3}
		hasSyndrome(t, whole, z, number)
		hasSyndrome(t, none, z, 0)
		hasLogical(t, whole, api.Pauli{N: rows, X: number}, api.Pauli{})
		hasLogical(t, none, api.Pauli{N: rows, X: number, Z: ^number, Phase: 1}, api.Pauli{N: rows, X: number, Z: ^number})
	}
	for _, c := range []api.Code{whole, none} {
		if _, e := code.Distance(c); e != api.ErrLong {
			t.Errorf("Distance: %d", e)
		}
	}
}
