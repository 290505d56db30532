package cut_test

import (
	"slices"

	"cubit/api"
)

const (
	top   = 1<<53 - 1 // the greatest part
	power = 60        // the greatest K
	most  = 10        // the most qubits
)

// number is a whole number as a ring element.
func number(n int64) api.Ring { return api.Ring{A: complex(float64(n), 0)} }

// numbers is a state of whole numbers, as many as 2 to a power.
func numbers(k int, list ...int64) api.State {
	var amps []api.Ring
	for _, n := range list {
		amps = append(amps, number(n))
	}
	return elements(k, amps...)
}

// elements is a state of ring elements, as many as 2 to a power.
func elements(k int, list ...api.Ring) api.State {
	n := 0
	for 1<<n < len(list) {
		n++
	}
	return api.State{N: n, K: k, Amps: list}
}

// basis is a state of n qubits that is 1 at one place.
func basis(n, at int) api.State {
	s := null(n)
	s.Amps[at] = number(1)
	return s
}

// null is the state of noughts alone.
func null(n int) api.State { return api.State{N: n, Amps: make([]api.Ring, 1<<n)} }

// same tells whether two states are the same, bit by bit: no part of a state that is taken is a nought with a sign.
func same(a, b api.State) bool {
	return a.N == b.N && a.K == b.K && slices.Equal(a.Amps, b.Amps)
}

// empty tells whether a state is the zero value.
func empty(s api.State) bool { return s.N == 0 && s.K == 0 && len(s.Amps) == 0 }

// few is a state, or its beginning, to be told.
func few(s api.State) api.State {
	s.Amps = s.Amps[:min(8, len(s.Amps))]
	return s
}

// changed is a state in memory of its own with another element at a place.
func changed(s api.State, at int, r api.Ring) api.State {
	s.Amps = slices.Clone(s.Amps)
	s.Amps[at] = r
	return s
}

// A source of states and masks: the same ones each time.
type source uint64

func (s *source) next() uint64 {
	*s = *s*6364136223846793005 + 1442695040888963407
	return uint64(*s) ^ uint64(*s)>>29
}

// below is a number from 0 to n - 1; the highest bits are taken, since the lowest ones repeat soon.
func (s *source) below(n int) int { return int((s.next() >> 33) % uint64(n)) }

// pick is one of a list.
func pick[V any](s *source, list ...V) V { return list[s.below(len(list))] }

// part has a length from 0 to so many bits, so that small and great ones come alike; of length 54 it is within 3 of one of the greatest ones.
func (s *source) part(length int) float64 {
	p := float64(s.next() >> 8 & (1<<s.below(min(length, 53)+1) - 1))
	if length > 53 {
		p = float64(top - int64(s.below(4)))
	}
	if p != 0 && s.below(2) == 0 {
		return -p
	}
	return p
}

// element has parts of so many bits.
func (s *source) element(length int) api.Ring {
	return api.Ring{A: complex(s.part(length), s.part(length)), B: complex(s.part(length), s.part(length))}
}

// elements are 2^n with parts of so many bits, of which some are noughts: none, a fourth, or all but a few.
func (s *source) elements(n, length int) []api.Ring {
	list := make([]api.Ring, 1<<n)
	noughts := s.below(3)
	for x := range list {
		switch {
		case noughts == 1 && s.below(4) == 0, noughts == 2 && s.below(len(list)) > 1:
		default:
			list[x] = s.element(length)
		}
	}
	return list
}

// state is one in its one form, of elements with parts of so many bits, over k or less.
func (s *source) state(n, length, k int) api.State {
	return formed(api.State{N: n, K: k, Amps: s.elements(n, length)})
}

// mask is any set of n qubits.
func (s *source) mask(n int) uint64 { return s.next() >> 9 & (1<<n - 1) }

// maskOf is a set of so many of n qubits.
func (s *source) maskOf(n, many int) uint64 {
	var mask uint64
	for ones := 0; ones < many; {
		bit := uint64(1) << s.below(n)
		if mask&bit == 0 {
			mask |= bit
			ones++
		}
	}
	return mask
}

// all are the n lowest bits.
func all(n int) uint64 { return 1<<n - 1 }

// ones are how many qubits a mask has.
func ones(mask uint64) int {
	count := 0
	for ; mask > 0; mask >>= 1 {
		count += int(mask & 1)
	}
	return count
}

// product is a state of n qubits that is one over mask, with parts of so many bits in both of the states that it is made of, over k or less.
func (s *source) product(n int, mask uint64, length, k int) api.State {
	in := ones(mask)
	z := multiplied(s.elements(in, length), s.elements(n-in, length), mask)
	return formed(api.State{N: n, K: k, Amps: z})
}
