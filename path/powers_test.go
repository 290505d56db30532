package path_test

import (
	"slices"

	"cubit/api"
)

// The chapter's words once more, over whole numbers: an element is four numbers, of which number j belongs to w^j, and w^4 is -1. So a + b i + (c + d i) w is a + c w + b w^2 + d w^3. No complex number, no float and no call of a layer is reckoned with, and each path is gone by itself to its end.

type powers [4]int64

func (p powers) element() api.Ring {
	return api.Ring{A: complex(float64(p[0]), float64(p[2])), B: complex(float64(p[1]), float64(p[3]))}
}

func (p powers) plus(q powers) powers {
	for j := range p {
		p[j] += q[j]
	}
	return p
}

// turned is p times w to the power by, by from 0 on.
func (p powers) turned(by int) powers {
	var z powers
	for j, n := range p {
		k := (j + by) % 8
		if k >= 4 {
			n = -n
		}
		z[k%4] = n
	}
	return z
}

// doubled: the square root of 2 is w - w^3, which is w + w^7.
func (p powers) doubled() powers { return p.turned(1).plus(p.turned(7)) }

// halved: p over the square root of 2 is half of p times it.
func (p powers) halved() (powers, bool) {
	z := p.doubled()
	for j, n := range z {
		if n%2 != 0 {
			return powers{}, false
		}
		z[j] = n / 2
	}
	return z, true
}

// A lead is an entry of a gate's matrix: from a column to a row, with w to a power over the square root of 2 to the power half.
type lead struct{ from, to, power, half int }

// A fact is what chapter 8 tells of a gate.
type fact struct {
	name          string
	qubits, halve int
	leads         []lead
}

// stay are leads from each of n to itself, but for some.
func stay(n int, but ...lead) []lead {
	all := slices.Clone(but)
	for y := range n {
		if !slices.ContainsFunc(but, func(l lead) bool { return l.from == y }) {
			all = append(all, lead{from: y, to: y})
		}
	}
	return all
}

// facts are chapter 8's gates, in its order.
var facts = []fact{
	{"i", 1, 0, stay(2)},
	{"x", 1, 0, []lead{{0, 1, 0, 0}, {1, 0, 0, 0}}},
	{"y", 1, 0, []lead{{0, 1, 2, 0}, {1, 0, 6, 0}}},
	{"z", 1, 0, stay(2, lead{1, 1, 4, 0})},
	{"h", 1, 1, []lead{{0, 0, 0, 1}, {0, 1, 0, 1}, {1, 0, 0, 1}, {1, 1, 4, 1}}},
	{"s", 1, 0, stay(2, lead{1, 1, 2, 0})},
	{"sdg", 1, 0, stay(2, lead{1, 1, 6, 0})},
	{"t", 1, 0, stay(2, lead{1, 1, 1, 0})},
	{"tdg", 1, 0, stay(2, lead{1, 1, 7, 0})},
	{"v", 1, 1, []lead{{0, 0, 1, 1}, {1, 1, 1, 1}, {0, 1, 7, 1}, {1, 0, 7, 1}}},
	{"vdg", 1, 1, []lead{{0, 0, 7, 1}, {1, 1, 7, 1}, {0, 1, 1, 1}, {1, 0, 1, 1}}},
	{"w", 1, 0, []lead{{0, 0, 1, 0}, {1, 1, 1, 0}}},
	{"wdg", 1, 0, []lead{{0, 0, 7, 0}, {1, 1, 7, 0}}},
	{"cx", 2, 0, stay(4, lead{1, 3, 0, 0}, lead{3, 1, 0, 0})},
	{"cy", 2, 0, stay(4, lead{1, 3, 2, 0}, lead{3, 1, 6, 0})},
	{"cz", 2, 0, stay(4, lead{3, 3, 4, 0})},
	{"ch", 2, 1, stay(4, lead{1, 1, 0, 1}, lead{1, 3, 0, 1}, lead{3, 1, 0, 1}, lead{3, 3, 4, 1})},
	{"cs", 2, 0, stay(4, lead{3, 3, 2, 0})},
	{"csdg", 2, 0, stay(4, lead{3, 3, 6, 0})},
	{"swap", 2, 0, stay(4, lead{1, 2, 0, 0}, lead{2, 1, 0, 0})},
	{"iswap", 2, 0, stay(4, lead{1, 2, 2, 0}, lead{2, 1, 2, 0})},
	{"iswapdg", 2, 0, stay(4, lead{1, 2, 6, 0}, lead{2, 1, 6, 0})},
	{"ccx", 3, 0, stay(8, lead{3, 7, 0, 0}, lead{7, 3, 0, 0})},
	{"ccz", 3, 0, stay(8, lead{7, 7, 4, 0})},
	{"cswap", 3, 0, stay(8, lead{3, 5, 0, 0}, lead{5, 3, 0, 0})},
}

// factOf is a gate's fact.
func factOf(name string) fact {
	return facts[slices.IndexFunc(facts, func(f fact) bool { return f.name == name })]
}

// put is x with y's bits at the qubits.
func put(x uint64, qubits []int, y int) uint64 {
	for j, q := range qubits {
		if x>>q&1 != uint64(y>>j&1) {
			x ^= 1 << q
		}
	}
	return x
}

// A way is a path's amplitude: w to the power over the square root of 2 to the power half.
type way struct{ power, half int }

// A sum is how many paths have each amplitude, power modulo 8 and half being the indices.
type sum [8][17]int64

// amp is the sum in its one form: all paths are brought over the square root of 2 to the power 16.
func (s sum) amp() api.Amp {
	var p powers
	for power, halves := range s {
		for half, many := range halves {
			z := powers{many}.turned(power)
			for range 16 - half {
				z = z.doubled()
			}
			p = p.plus(z)
		}
	}
	k := 16
	for k > 0 {
		z, ok := p.halved()
		if !ok {
			break
		}
		p, k = z, k-1
	}
	return api.Amp{R: p.element(), K: k}
}

// gone goes all paths of the operations from x on, one by one, and counts each at its end.
func gone(ops []api.Op, x uint64, so way, ends map[uint64]sum) int {
	if len(ops) == 0 {
		s := ends[x]
		s[so.power%8][so.half]++
		ends[x] = s
		return 1
	}
	many := 0
	for _, l := range factOf(ops[0].Name).leads {
		if put(x, ops[0].Qubits, l.from) == x {
			many += gone(ops[1:], put(x, ops[0].Qubits, l.to), way{so.power + l.power, so.half + l.half}, ends)
		}
	}
	return many
}

// summed is what Amp has to tell of each end that a path leads to, and how many paths there are.
func summed(c api.Circuit, from uint64) (map[uint64]api.Amp, int) {
	ends := map[uint64]sum{}
	many := gone(c.Ops, from, way{}, ends)
	amps := map[uint64]api.Amp{}
	for x, s := range ends {
		amps[x] = s.amp()
	}
	return amps, many
}

// stateOf is what State has to tell, of what Amp has to tell of each end.
func stateOf(n int, amps map[uint64]api.Amp) api.State {
	s := api.State{N: n, Amps: make([]api.Ring, 1<<n)}
	for _, a := range amps {
		s.K = max(s.K, a.K)
	}
	for x, a := range amps {
		p := powers{int64(real(a.R.A)), int64(real(a.R.B)), int64(imag(a.R.A)), int64(imag(a.R.B))}
		for range s.K - a.K {
			p = p.doubled()
		}
		s.Amps[x] = p.element()
	}
	return s
}
