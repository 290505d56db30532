package dense_test

import (
	exact "math/big"
	"slices"

	"cubit/api"
)

// The chapter's words once more, over whole numbers: an element is four numbers, of which number j belongs to w^j, and w^4 is -1. So a + b i + (c + d i) w is a + c w + b w^2 + d w^3. No complex number, no float and no call of a layer is reckoned with.

type powers [4]int64

func powersOf(r api.Ring) powers {
	return powers{int64(real(r.A)), int64(real(r.B)), int64(imag(r.A)), int64(imag(r.B))}
}

func (p powers) element() api.Ring {
	return element(complex(float64(p[0]), float64(p[2])), complex(float64(p[1]), float64(p[3])))
}

func (p powers) plus(q powers) powers {
	for j := range p {
		p[j] += q[j]
	}
	return p
}

// turned is p times w to the power by, by from 0 on.
func (p powers) turned(by int) powers {
	var z powers
	for j, n := range p {
		k := (j + by) % 8
		if k >= 4 {
			n = -n
		}
		z[k%4] = n
	}
	return z
}

// doubled: the square root of 2 is w - w^3, which is w + w^7.
func (p powers) doubled() powers { return p.turned(1).plus(p.turned(7)) }

// halved: p over the square root of 2 is half of p times it.
func (p powers) halved() (powers, bool) {
	z := p.doubled()
	for j, n := range z {
		if n%2 != 0 {
			return powers{}, false
		}
		z[j] = n / 2
	}
	return z, true
}

func (p powers) fits() bool {
	for _, n := range p {
		if n < -top || n > top {
			return false
		}
	}
	return true
}

func (p powers) null() bool { return p == powers{} }

// A lead is an entry of a gate's matrix: from a column to a row, with w to a power over the square root of 2 to the power half.
type lead struct{ from, to, power, half int }

// A fact is what chapter 8 tells of a gate.
type fact struct {
	name          string
	qubits, halve int
	back          string
	leads         []lead
}

// stay are leads from each of n to itself, but for some.
func stay(n int, but ...lead) []lead {
	all := slices.Clone(but)
	for y := range n {
		if !slices.ContainsFunc(but, func(l lead) bool { return l.from == y }) {
			all = append(all, lead{from: y, to: y})
		}
	}
	return all
}

// facts are chapter 8's gates, in its order.
var facts = []fact{
	{"i", 1, 0, "i", stay(2)},
	{"x", 1, 0, "x", []lead{{0, 1, 0, 0}, {1, 0, 0, 0}}},
	{"y", 1, 0, "y", []lead{{0, 1, 2, 0}, {1, 0, 6, 0}}},
	{"z", 1, 0, "z", stay(2, lead{1, 1, 4, 0})},
	{"h", 1, 1, "h", []lead{{0, 0, 0, 1}, {0, 1, 0, 1}, {1, 0, 0, 1}, {1, 1, 4, 1}}},
	{"s", 1, 0, "sdg", stay(2, lead{1, 1, 2, 0})},
	{"sdg", 1, 0, "s", stay(2, lead{1, 1, 6, 0})},
	{"t", 1, 0, "tdg", stay(2, lead{1, 1, 1, 0})},
	{"tdg", 1, 0, "t", stay(2, lead{1, 1, 7, 0})},
	{"v", 1, 1, "vdg", []lead{{0, 0, 1, 1}, {1, 1, 1, 1}, {0, 1, 7, 1}, {1, 0, 7, 1}}},
	{"vdg", 1, 1, "v", []lead{{0, 0, 7, 1}, {1, 1, 7, 1}, {0, 1, 1, 1}, {1, 0, 1, 1}}},
	{"w", 1, 0, "wdg", []lead{{0, 0, 1, 0}, {1, 1, 1, 0}}},
	{"wdg", 1, 0, "w", []lead{{0, 0, 7, 0}, {1, 1, 7, 0}}},
	{"cx", 2, 0, "cx", stay(4, lead{1, 3, 0, 0}, lead{3, 1, 0, 0})},
	{"cy", 2, 0, "cy", stay(4, lead{1, 3, 2, 0}, lead{3, 1, 6, 0})},
	{"cz", 2, 0, "cz", stay(4, lead{3, 3, 4, 0})},
	{"ch", 2, 1, "ch", stay(4, lead{1, 1, 0, 1}, lead{1, 3, 0, 1}, lead{3, 1, 0, 1}, lead{3, 3, 4, 1})},
	{"cs", 2, 0, "csdg", stay(4, lead{3, 3, 2, 0})},
	{"csdg", 2, 0, "cs", stay(4, lead{3, 3, 6, 0})},
	{"swap", 2, 0, "swap", stay(4, lead{1, 2, 0, 0}, lead{2, 1, 0, 0})},
	{"iswap", 2, 0, "iswapdg", stay(4, lead{1, 2, 2, 0}, lead{2, 1, 2, 0})},
	{"iswapdg", 2, 0, "iswap", stay(4, lead{1, 2, 6, 0}, lead{2, 1, 6, 0})},
	{"ccx", 3, 0, "ccx", stay(8, lead{3, 7, 0, 0}, lead{7, 3, 0, 0})},
	{"ccz", 3, 0, "ccz", stay(8, lead{7, 7, 4, 0})},
	{"cswap", 3, 0, "cswap", stay(8, lead{3, 5, 0, 0}, lead{5, 3, 0, 0})},
}

// factOf is a gate's fact; that of no gate is all nought.
func factOf(name string) fact {
	for _, f := range facts {
		if f.name == name {
			return f
		}
	}
	return fact{}
}

// A told is what a call should tell.
type told struct {
	s api.State
	e api.Errno
}

// formed brings elements into one form.
func formed(n, k int, list []powers) api.State {
	for k > 0 {
		halves := make([]powers, len(list))
		all := true
		for x, p := range list {
			half, ok := p.halved()
			halves[x], all = half, all && ok
		}
		if !all {
			break
		}
		list, k = halves, k-1
	}
	s := api.State{N: n, K: k}
	for _, p := range list {
		s.Amps = append(s.Amps, p.element())
	}
	return s
}

// listOf is a state's elements as powers.
func listOf(s api.State) []powers {
	var list []powers
	for _, r := range s.Amps {
		list = append(list, powersOf(r))
	}
	return list
}

// gateRefused tells what is wrong with a gate on so many qubits.
func gateRefused(n int, name string, qubits []int) api.Errno {
	f := factOf(name)
	if f.name == "" {
		return api.ErrGate
	}
	if len(qubits) != f.qubits {
		return api.ErrArity
	}
	for _, q := range qubits {
		if q < 0 || q > n-1 {
			return api.ErrArg
		}
	}
	if sorted := slices.Sorted(slices.Values(qubits)); len(slices.Compact(sorted)) != len(qubits) {
		return api.ErrSame
	}
	return api.OK
}

// put is x with y's bits at the qubits.
func put(x int, qubits []int, y int) int {
	for j, q := range qubits {
		if x>>q&1 != y>>j&1 {
			x ^= 1 << q
		}
	}
	return x
}

// applied goes over the old elements: each leads to one or two new ones.
func applied(s api.State, name string, qubits []int) told {
	if e := gateRefused(s.N, name, qubits); e != api.OK {
		return told{e: e}
	}
	f := factOf(name)
	list := make([]powers, len(s.Amps))
	for x, p := range listOf(s) {
		for _, l := range f.leads {
			if put(x, qubits, l.from) != x {
				continue
			}
			term := p.turned(l.power)
			for range f.halve - l.half {
				term = term.doubled()
			}
			to := put(x, qubits, l.to)
			list[to] = list[to].plus(term)
			if !term.fits() || !list[to].fits() {
				return told{e: api.ErrBig}
			}
		}
	}
	z := formed(s.N, s.K+f.halve, list)
	if z.K > 60 {
		return told{e: api.ErrBig}
	}
	return told{s: z}
}

// weighed is the weight of the elements that are asked for: the product with the conjugate is P + Q (w - w^3).
func weighed(s api.State, want func(x int) bool) (api.Root, api.Errno) {
	p, q := new(exact.Int), new(exact.Int)
	add := func(to *exact.Int, a, b int64) { to.Add(to, new(exact.Int).Mul(exact.NewInt(a), exact.NewInt(b))) }
	for x, n := range listOf(s) {
		if !want(x) {
			continue
		}
		for j := range n {
			add(p, n[j], n[j])
		}
		add(q, n[0], n[1])
		add(q, n[1], n[2])
		add(q, n[2], n[3])
		add(q, n[3], -n[0])
	}
	if p.Cmp(exact.NewInt(top)) > 0 {
		return api.Root{}, api.ErrBig
	}
	r := api.Root{P: p.Int64(), Q: q.Int64(), K: s.K}
	for r.K > 0 && r.P%2 == 0 && r.Q%2 == 0 {
		r = api.Root{P: r.P / 2, Q: r.Q / 2, K: r.K - 1}
	}
	return r, api.OK
}

func all(int) bool { return true }

// bitIs tells which indices have this bit at this place.
func bitIs(qubit, bit int) func(int) bool {
	return func(x int) bool { return x>>qubit&1 == bit }
}

func projected(s api.State, qubit, bit int) told {
	list := listOf(s)
	null := true
	for x := range list {
		if !bitIs(qubit, bit)(x) {
			list[x] = powers{}
		}
		null = null && list[x].null()
	}
	if null {
		return told{e: api.ErrNull}
	}
	return told{s: formed(s.N, s.K, list)}
}

func phased(a, b api.State) (int, bool) {
	if a.N != b.N || a.K != b.K {
		return 0, false
	}
	p, q := listOf(a), listOf(b)
	for k := range 8 {
		if slices.EqualFunc(p, q, func(r, s powers) bool { return r == s.turned(k) }) {
			return k, true
		}
	}
	return 0, false
}

// ranThrough is a circuit's gates one behind the other.
func ranThrough(s api.State, c api.Circuit) told {
	for _, op := range c.Ops {
		z := applied(s, op.Name, op.Qubits)
		if z.e != api.OK {
			return z
		}
		s = z.s
	}
	return told{s: s}
}
