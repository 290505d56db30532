package expect_test

import (
	"slices"
	"testing"

	"cubit/api"
	"cubit/gate"
	"cubit/pauli"
)

const (
	top   = 1<<53 - 1 // the greatest part
	power = 60        // the greatest K
	most  = 10        // the most qubits
)

// number is a whole number as a ring element.
func number(n int64) api.Ring { return api.Ring{A: complex(float64(n), 0)} }

// numbers is a state of whole numbers, as many as 2 to a power.
func numbers(k int, list ...int64) api.State {
	var amps []api.Ring
	for _, n := range list {
		amps = append(amps, number(n))
	}
	return elements(k, amps...)
}

// elements is a state of ring elements, as many as 2 to a power.
func elements(k int, list ...api.Ring) api.State {
	n := 0
	for 1<<n < len(list) {
		n++
	}
	return api.State{N: n, K: k, Amps: list}
}

// basis is a state of n qubits that is 1 at one place.
func basis(n, at int) api.State {
	s := api.State{N: n, Amps: make([]api.Ring, 1<<n)}
	s.Amps[at] = number(1)
	return s
}

// null is the state of noughts alone.
func null(n int) api.State { return api.State{N: n, Amps: make([]api.Ring, 1<<n)} }

// same tells whether two states are the same, bit by bit: no part of a state that is taken is a nought with a sign.
func same(a, b api.State) bool {
	return a.N == b.N && a.K == b.K && slices.Equal(a.Amps, b.Amps)
}

// few is a state, or its beginning, to be told.
func few(s api.State) api.State {
	s.Amps = s.Amps[:min(8, len(s.Amps))]
	return s
}

// of is the string of a text.
func of(t *testing.T, text string) api.Pauli {
	t.Helper()
	p, e := pauli.Parse(text)
	if e != api.OK {
		t.Fatalf("%q: %d", text, e)
	}
	return p
}

// strings are all on n qubits with these Phases.
func strings(n int, phases ...int) []api.Pauli {
	var list []api.Pauli
	for x := range uint64(1) << n {
		for z := range uint64(1) << n {
			for _, phase := range phases {
				list = append(list, api.Pauli{N: n, X: x, Z: z, Phase: phase})
			}
		}
	}
	return list
}

// A source of states and strings: the same ones each time.
type source uint64

func (s *source) next() uint64 {
	*s = *s*6364136223846793005 + 1442695040888963407
	return uint64(*s) ^ uint64(*s)>>29
}

// below is a number from 0 to n - 1; the highest bits are taken, since the lowest ones repeat soon.
func (s *source) below(n int) int { return int((s.next() >> 33) % uint64(n)) }

// pick is one of a list.
func pick[V any](s *source, list ...V) V { return list[s.below(len(list))] }

// part has a length from 0 to so many bits, so that small and great ones come alike.
func (s *source) part(length int) int64 {
	p := int64(s.next() >> 8 & (1<<s.below(length+1) - 1))
	if s.below(2) == 0 {
		return -p
	}
	return p
}

// great is a part within 3 of one of the greatest ones.
func (s *source) great() int64 {
	return pick[int64](s, 1, -1) * (top - int64(s.below(4)))
}

// element has parts of so many bits, or near the greatest ones, if length is above 53.
func (s *source) element(length int) api.Ring {
	part := func() float64 {
		if length > 53 {
			return float64(s.great())
		}
		return float64(s.part(length))
	}
	return api.Ring{A: complex(part(), part()), B: complex(part(), part())}
}

// state is one in its one form, of elements with parts of so many bits, a fourth of them noughts. Where K is above 0 one of them is made one that can't be halved: A's parts are then one even and one odd.
func (s *source) state(n, length, k int) api.State {
	list := make([]api.Ring, 1<<n)
	for x := range list {
		if s.below(4) > 0 {
			list[x] = s.element(length)
		}
	}
	r := &list[s.below(len(list))]
	switch even := (int64(real(r.A))+int64(imag(r.A)))%2 == 0; {
	case k > 0 && even && real(r.A) > 0:
		r.A -= 1
	case k > 0 && even:
		r.A += 1
	}
	return api.State{N: n, K: k, Amps: list}
}

// string is any one on n qubits with one of these Phases.
func (s *source) string(n int, phases ...int) api.Pauli {
	mask := uint64(1)<<n - 1
	p := api.Pauli{N: n, X: s.next() >> 7 & mask, Z: s.next() >> 7 & mask, Phase: pick(s, phases...)}
	switch s.below(8) {
	case 0:
		p.X = 0
	case 1:
		p.Z = 0
	case 2:
		p.X = p.Z
	}
	return p
}

// qubits are so many of n, none twice.
func (s *source) qubits(n, many int) []int {
	var list []int
	for len(list) < many {
		if q := s.below(n); !slices.Contains(list, q) {
			list = append(list, q)
		}
	}
	return list
}

// clifford are the names of Clifford's gates with so many qubits at most.
func clifford(most int) []string {
	var list []string
	for _, name := range gate.Names() {
		if gate.Clifford(name) && gate.Arity(name) <= most {
			list = append(list, name)
		}
	}
	return list
}

// tuples are all lists of so many of n qubits, none twice, in each order.
func tuples(n, many int) [][]int {
	if many == 0 {
		return [][]int{nil}
	}
	var all [][]int
	for _, list := range tuples(n, many-1) {
		for q := range n {
			if !slices.Contains(list, q) {
				all = append(all, append(slices.Clone(list), q))
			}
		}
	}
	return all
}
