package code_test

import (
	"slices"

	"cubit/api"
)

const (
	search = 8  // the most qubits on which Distance and Decode look
	rows   = 64 // the most qubits
)

// spelled is a string written with qubit 0 as the first letter, of Phase 0.
func spelled(letters string) api.Pauli {
	p := api.Pauli{N: len(letters)}
	for j, l := range []byte(letters) {
		if l == 'X' || l == 'Y' {
			p.X |= 1 << j
		}
		if l == 'Z' || l == 'Y' {
			p.Z |= 1 << j
		}
	}
	return p
}

// list is a list of strings so written.
func list(texts ...string) []api.Pauli {
	var all []api.Pauli
	for _, l := range texts {
		all = append(all, spelled(l))
	}
	return all
}

// alone is a code without logical qubits.
func alone(gens ...string) api.Code { return api.Code{N: len(gens), Gens: list(gens...)} }

// bare is the code of n qubits without generators, whose logical qubits are its qubits.
func bare(n int) api.Code {
	c := api.Code{N: n}
	for j := range n {
		c.X = append(c.X, api.Pauli{N: n, X: 1 << j})
		c.Z = append(c.Z, api.Pauli{N: n, Z: 1 << j})
	}
	return c
}

// two is a code of four qubits, of which two are logical ones.
func two() api.Code {
	return api.Code{N: 4, Gens: list("XXXX", "ZZZZ"), X: list("XXII", "XIXI"), Z: list("ZIZI", "ZZII")}
}

// three is a code of eight qubits, of which three are logical ones, with the distance 3.
func three() api.Code {
	return api.Code{
		N:    8,
		Gens: list("XXXXXXXX", "ZZZZZZZZ", "IXIXYZYZ", "IXZYIXZY", "IYXZXZIY"),
		X:    list("XXIIIZIZ", "XIXZIIZI", "XIIZXZII"),
		Z:    list("IZIZIZIZ", "IIZZIIZZ", "IIIIZZZZ"),
	}
}

// copied is the same code in other memory.
func copied(c api.Code) api.Code {
	c.Gens, c.X, c.Z = slices.Clone(c.Gens), slices.Clone(c.X), slices.Clone(c.Z)
	return c
}

// same tells whether two codes are the same, string by string.
func same(a, b api.Code) bool {
	return a.N == b.N && slices.Equal(a.Gens, b.Gens) && slices.Equal(a.X, b.X) && slices.Equal(a.Z, b.Z)
}

// strings are all on n qubits with these Phases.
func strings(n int, phases ...int) []api.Pauli {
	var all []api.Pauli
	for x := range uint64(1) << n {
		for z := range uint64(1) << n {
			for _, phase := range phases {
				all = append(all, api.Pauli{N: n, X: x, Z: z, Phase: phase})
			}
		}
	}
	return all
}

// A source of codes and strings: the same ones each time. It makes them of bits, without the package's help.
type source uint64

func (s *source) next() uint64 {
	*s = *s*6364136223846793005 + 1442695040888963407
	return uint64(*s) ^ uint64(*s)>>29
}

// below is a number from 0 to n - 1; the highest bits are taken, since the lowest ones repeat soon.
func (s *source) below(n int) int { return int((s.next() >> 33) % uint64(n)) }

// pick is one of a list.
func pick[V any](s *source, list ...V) V { return list[s.below(len(list))] }

// number has so many bits.
func (s *source) number(length int) uint64 {
	return (s.next()>>9 ^ s.next()<<20) & (uint64(1)<<length - 1)
}

// string is any one on n qubits with one of these Phases.
func (s *source) string(n int, phases ...int) api.Pauli {
	p := api.Pauli{N: n, X: s.number(n), Z: s.number(n), Phase: pick(s, phases...)}
	switch s.below(8) {
	case 0:
		p.X = 0
	case 1:
		p.Z = 0
	case 2:
		p.X = p.Z
	case 3:
		p.X &= s.number(n) & s.number(n)
		p.Z &= s.number(n) & s.number(n)
	}
	return p
}

// times is the product of two strings, but for its Phase, which becomes 0 or 2 by chance.
func (s *source) times(a, b api.Pauli) api.Pauli {
	return api.Pauli{N: a.N, X: a.X ^ b.X, Z: a.Z ^ b.Z, Phase: 2 * s.below(2)}
}

// qubits is a number of them, with the edges more often than others.
func (s *source) qubits() int {
	return pick(s, 1, 2, 3, 7, 8, 9, 31, 32, 33, 62, 63, 64, 64, 1+s.below(rows), 1+s.below(rows))
}

// code is any right one of n qubits with so many generators. Begun with strings on one qubit each, all strings are led through gates, which leave commuting as it is; then generators are multiplied by each other, and the others by generators.
func (s *source) code(n, gens int) api.Code {
	eyes := bare(n)
	c := api.Code{N: n, Gens: eyes.Z[:gens:gens], X: eyes.X[gens:], Z: eyes.Z[gens:]}
	for range s.below(16*n + 1) {
		turn := s.turn(n)
		for _, l := range [][]api.Pauli{c.Gens, c.X, c.Z} {
			for i := range l {
				l[i] = turn(l[i])
			}
		}
	}
	return s.mixed(c)
}

// mixed is the code with other generators of the same group, and other strings that do the same.
func (s *source) mixed(c api.Code) api.Code {
	c = copied(c)
	if len(c.Gens) == 0 {
		return c
	}
	for range s.below(2*c.N + 1) {
		if i, j := s.below(len(c.Gens)), s.below(len(c.Gens)); i != j {
			c.Gens[i] = s.times(c.Gens[i], c.Gens[j])
		}
		l := pick(s, c.X, c.Z)
		if len(l) > 0 {
			i := s.below(len(l))
			l[i] = s.times(l[i], pick(s, c.Gens...))
		}
	}
	return c
}

// turn is what a gate does to a string's X and Z: h, s or cx on any qubits of n.
func (s *source) turn(n int) func(api.Pauli) api.Pauli {
	a, b := s.below(n), s.below(n)
	switch kind := s.below(4); {
	case kind == 0:
		return func(p api.Pauli) api.Pauli {
			change := (p.X ^ p.Z) & (1 << a)
			p.X ^= change
			p.Z ^= change
			return p
		}
	case kind == 1 || a == b:
		return func(p api.Pauli) api.Pauli {
			p.Z ^= p.X & (1 << a)
			return p
		}
	}
	return func(p api.Pauli) api.Pauli {
		p.X ^= p.X >> a & 1 << b
		p.Z ^= p.Z >> b & 1 << a
		return p
	}
}

// turnedByQubits is the code with its qubits in another order and X, Y and Z exchanged on each of them: strings keep their weights.
func (s *source) turnedByQubits(c api.Code) api.Code {
	c = copied(c)
	places, turns := s.order(c.N), make([]int, c.N)
	for j := range turns {
		turns[j] = s.below(6)
	}
	for _, l := range [][]api.Pauli{c.Gens, c.X, c.Z} {
		for i, p := range l {
			l[i] = api.Pauli{N: p.N, Phase: p.Phase}
			for j, place := range places {
				x, z := p.X>>j&1, p.Z>>j&1
				x, z = [6]uint64{x, z, x, x ^ z, z, x ^ z}[turns[j]], [6]uint64{z, x, x ^ z, z, x ^ z, x}[turns[j]]
				l[i].X |= x << place
				l[i].Z |= z << place
			}
		}
	}
	return c
}

// order is one of n things.
func (s *source) order(n int) []int {
	var order []int
	for j := range n {
		order = slices.Insert(order, s.below(len(order)+1), j)
	}
	return order
}
