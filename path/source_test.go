package path_test

import (
	"slices"

	"cubit/api"
)

// tuples are all lists of so many of n qubits, none twice, in each order.
func tuples(n, many int) [][]int {
	if many == 0 {
		return [][]int{nil}
	}
	var all [][]int
	for _, list := range tuples(n, many-1) {
		for q := range n {
			if !slices.Contains(list, q) {
				all = append(all, append(slices.Clone(list), q))
			}
		}
	}
	return all
}

// A source of circuits: the same ones each time.
type source uint64

func (s *source) next() uint64 {
	*s = *s*6364136223846793005 + 1442695040888963407
	return uint64(*s) ^ uint64(*s)>>29
}

// below is a number from 0 to n - 1; the highest bits are taken, since the lowest ones repeat soon.
func (s *source) below(n int) int { return int((s.next() >> 33) % uint64(n)) }

// index is a number below 2^n.
func (s *source) index(n int) uint64 { return (s.next() ^ s.next()<<32) & (1<<n - 1) }

// qubits are so many of n, none twice.
func (s *source) qubits(n, many int) []int {
	var list []int
	for len(list) < many {
		if q := s.below(n); !slices.Contains(list, q) {
			list = append(list, q)
		}
	}
	return list
}

// gate is one for n qubits; every other one halves.
func (s *source) gate(n int) api.Op {
	halve := s.below(2)
	for {
		if f := facts[s.below(len(facts))]; f.qubits <= n && f.halve == halve {
			return op(f.name, s.qubits(n, f.qubits)...)
		}
	}
}

// circuit is one of gates alone, with at most so many operations and halvings.
func (s *source) circuit(n, ops, halvings int) api.Circuit {
	c := api.Circuit{Qubits: n, Bits: s.below(3)}
	if n == 0 {
		return c
	}
	for range s.below(ops + 1) {
		op := s.gate(n)
		if halvings -= factOf(op.Name).halve; halvings < 0 {
			halvings = 0
			continue
		}
		c.Ops = append(c.Ops, op)
	}
	return c
}

// shuffled is the list in another order.
func (s *source) shuffled(list []int) []int {
	list = slices.Clone(list)
	for j := len(list) - 1; j > 0; j-- {
		k := s.below(j + 1)
		list[j], list[k] = list[k], list[j]
	}
	return list
}
