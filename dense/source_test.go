package dense_test

import (
	"slices"

	"cubit/api"
)

// tuples are all lists of so many of n qubits, none twice, in each order.
func tuples(n, many int) [][]int {
	if many == 0 {
		return [][]int{nil}
	}
	var all [][]int
	for _, list := range tuples(n, many-1) {
		for q := range n {
			if !slices.Contains(list, q) {
				all = append(all, append(slices.Clone(list), q))
			}
		}
	}
	return all
}

// A source of states: the same ones each time.
type source uint64

func (s *source) next() uint64 {
	*s = *s*6364136223846793005 + 1442695040888963407
	return uint64(*s) ^ uint64(*s)>>29
}

// below is a number from 0 to n - 1; the highest bits are taken, since the lowest ones repeat soon.
func (s *source) below(n int) int { return int((s.next() >> 33) % uint64(n)) }

// part has a length from 0 to most bits, so that small and great ones come alike.
func (s *source) part(most int) int64 {
	p := int64(s.next() >> 8 & (1<<s.below(most+1) - 1))
	if s.below(2) == 0 {
		return -p
	}
	return p
}

func (s *source) powers(most int) powers {
	return powers{s.part(most), s.part(most), s.part(most), s.part(most)}
}

// state has some noughts, and K is at most highest; now and then all elements can be halved before it is brought into one form.
func (s *source) state(n, most, highest int) api.State {
	list := make([]powers, 1<<n)
	doubled := s.below(3)
	for x := range list {
		if s.below(4) == 0 {
			continue
		}
		p := s.powers(most)
		for range doubled {
			if z := p.doubled(); z.fits() {
				p = z
			}
		}
		list[x] = p
	}
	return formed(n, s.below(highest+1), list)
}

// qubits are so many of n, none twice.
func (s *source) qubits(n, many int) []int {
	var list []int
	for len(list) < many {
		if q := s.below(n); !slices.Contains(list, q) {
			list = append(list, q)
		}
	}
	return list
}

// gate is one for so many qubits, with those that it is on.
func (s *source) gate(n int) api.Op {
	for {
		if f := facts[s.below(len(facts))]; f.qubits <= n {
			return op(f.name, s.qubits(n, f.qubits)...)
		}
	}
}

// circuit is one of gates alone, with at most so many halvings.
func (s *source) circuit(n, ops, halvings int) api.Circuit {
	c := circuitOf(n)
	for len(c.Ops) < ops && n > 0 {
		op := s.gate(n)
		if halvings -= factOf(op.Name).halve; halvings < 0 {
			halvings = 0
			continue
		}
		c.Ops = append(c.Ops, op)
	}
	return c
}
