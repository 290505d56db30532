package sparse_test

import (
	"math"
	"slices"
	"testing"

	"cubit/api"
	"cubit/gate"
	"cubit/ring"
)

// tuples are all lists of so many of n qubits, none twice, in each order.
func tuples(n, many int) [][]int {
	if many == 0 {
		return [][]int{nil}
	}
	var all [][]int
	for _, list := range tuples(n, many-1) {
		for q := range n {
			if !slices.Contains(list, q) {
				all = append(all, append(slices.Clone(list), q))
			}
		}
	}
	return all
}

// formed is a state of these elements, brought into one form.
func formed(n, k int, list []api.Ring) api.State {
	list = slices.Clone(list)
	for k > 0 {
		half := make([]api.Ring, len(list))
		for x, r := range list {
			h, ok, e := ring.Halve(r)
			if !ok || e != api.OK {
				return api.State{N: n, K: k, Amps: list}
			}
			half[x] = h
		}
		list, k = half, k-1
	}
	return api.State{N: n, K: k, Amps: list}
}

// A source of states and calls: the same ones each time.
type source uint64

func (s *source) next() uint64 {
	*s = *s*6364136223846793005 + 1442695040888963407
	return uint64(*s) ^ uint64(*s)>>29
}

// below is a number from 0 to n - 1; the highest bits are taken, since the lowest ones repeat soon.
func (s *source) below(n int) int { return int((s.next() >> 33) % uint64(n)) }

// part has a length from 0 to most bits, so that small and great ones come alike.
func (s *source) part(most int) float64 {
	p := float64(s.next() >> 8 & (1<<s.below(most+1) - 1))
	if p != 0 && s.below(2) == 0 {
		return -p
	}
	return p
}

func (s *source) element(most int) api.Ring {
	return element(complex(s.part(most), s.part(most)), complex(s.part(most), s.part(most)))
}

// state has so many noughts in four, and K is at most highest; now and then all elements can be halved before it is brought into one form.
func (s *source) state(n, most, highest, noughts int) api.State {
	list := make([]api.Ring, 1<<n)
	doubled := s.below(3)
	for x := range list {
		if s.below(4) < noughts {
			continue
		}
		list[x] = s.element(most)
		for range doubled {
			if r, e := ring.Double(list[x]); e == api.OK {
				list[x] = r
			}
		}
	}
	return formed(n, s.below(highest+1), list)
}

// anyState is of n qubits, great or small, with noughts or without, now and then null.
func (s *source) anyState(n int) api.State {
	most := []int{1, 2, 8, 22, 25, 51, 53}[s.below(7)]
	return s.state(n, most, []int{0, 3, 60}[s.below(3)], s.below(5))
}

// edgeState has parts that are at the bound, or whose doubles and sums are at it or one past it.
func (s *source) edgeState(n int) api.State {
	parts := []float64{0, 0, 1, -1, 1<<52 - 1, 1 << 52, -(1 << 52), top - 1, top, -top}
	part := func() float64 { return parts[s.below(len(parts))] }
	list := make([]api.Ring, 1<<n)
	for x := range list {
		switch s.below(4) {
		case 0:
			list[x] = whole(complex(part(), part()))
		case 1:
			list[x] = element(0, complex(part(), part()))
		case 2:
			list[x] = element(complex(part(), 0), complex(0, part()))
		}
	}
	return formed(n, []int{0, 1, 59, 60}[s.below(4)], list)
}

// qubits are so many of n, none twice.
func (s *source) qubits(n, many int) []int {
	var list []int
	for len(list) < many {
		if q := s.below(n); !slices.Contains(list, q) {
			list = append(list, q)
		}
	}
	return list
}

// gate is one for n qubits, 1 or more, with those that it is on.
func (s *source) gate(n int) (string, []int) {
	names := gate.Names()
	for {
		if name := names[s.below(len(names))]; gate.Arity(name) <= n {
			return name, s.qubits(n, gate.Arity(name))
		}
	}
}

// anyGate is a gate and a list of qubits, right or wrong.
func (s *source) anyGate(n int) (string, []int) {
	if n > 0 && s.below(4) > 0 {
		return s.gate(n)
	}
	name := append(gate.Names(), "", "none", "X")[s.below(28)]
	var list []int
	for range s.below(5) {
		list = append(list, s.place(n))
	}
	return name, list
}

// place is a qubit of n, or one beside them.
func (s *source) place(n int) int {
	if s.below(8) == 0 {
		return []int{-1, n, n + 1, 63, 64, math.MinInt, math.MaxInt}[s.below(7)]
	}
	return s.below(max(n, 1))
}

// bit is 0 or 1, or none of them.
func (s *source) bit() int {
	if s.below(8) == 0 {
		return []int{-1, 2, 3, math.MinInt, math.MaxInt}[s.below(5)]
	}
	return s.below(2)
}

func TestTuples(t *testing.T) {
	for _, c := range []struct{ n, many, want int }{{3, 0, 1}, {4, 1, 4}, {4, 2, 12}, {4, 3, 24}, {1, 2, 0}} {
		if got := len(tuples(c.n, c.many)); got != c.want {
			t.Errorf("%d of %d: %d lists, not %d", c.many, c.n, got, c.want)
		}
	}
}
