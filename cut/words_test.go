package cut_test

import (
	exact "math/big"
	"testing"

	"cubit/api"
	"cubit/cut"
	"cubit/dense"
	"cubit/ring"
)

// The chapter's words once more, over whole numbers: an element is four numbers, of which number j belongs to w^j, and w^4 is -1. So a + b i + (c + d i) w is a + c w + b w^2 + d w^3. Only whether a product is refused is ring.Mul's to tell, as the chapter says.

type powers [4]int64

func powersOf(r api.Ring) powers {
	return powers{int64(real(r.A)), int64(real(r.B)), int64(imag(r.A)), int64(imag(r.B))}
}

func (p powers) element() api.Ring {
	return api.Ring{A: complex(float64(p[0]), float64(p[2])), B: complex(float64(p[1]), float64(p[3]))}
}

// half is the element over the square root of 2, which is that times w - w^3, over 2; false, if that isn't of whole numbers.
func (p powers) half() (powers, bool) {
	z := powers{p[1] - p[3], p[0] + p[2], p[1] + p[3], p[2] - p[0]}
	for j := range z {
		if z[j]%2 != 0 {
			return powers{}, false
		}
		z[j] /= 2
	}
	return z, true
}

// formed is a state brought into one form, in memory of its own.
func formed(s api.State) api.State {
	list := make([]powers, len(s.Amps))
	for x, r := range s.Amps {
		list[x] = powersOf(r)
	}
	for ; s.K > 0; s.K-- {
		halves := make([]powers, len(list))
		even := true
		for x, p := range list {
			h, ok := p.half()
			halves[x], even = h, even && ok
		}
		if !even {
			break
		}
		list = halves
	}
	s.Amps = nil
	for _, p := range list {
		s.Amps = append(s.Amps, p.element())
	}
	return s
}

// A long is four numbers of any length, that belong to the powers of w.
type long [4]*exact.Int

// times is the product of two elements.
func times(r, s api.Ring) long {
	var z long
	for j := range z {
		z[j] = new(exact.Int)
	}
	for j, m := range powersOf(r) {
		for k, n := range powersOf(s) {
			term := new(exact.Int).Mul(exact.NewInt(m), exact.NewInt(n))
			at := j + k
			if at >= 4 {
				at -= 4
				term.Neg(term)
			}
			z[at].Add(z[at], term)
		}
	}
	return z
}

func (z long) is(y long) bool {
	for j := range z {
		if z[j].Cmp(y[j]) != 0 {
			return false
		}
	}
	return true
}

// refuses tells whether ring.Mul refuses a product.
func refuses(r, s api.Ring) bool {
	_, e := ring.Mul(r, s)
	return e != api.OK
}

// A grid tells which basis state has an inner and an outer number: grid[u][v].
type grid [][]int

// gridOf goes over the qubits from the highest one on, each of which becomes the lowest bit of one of both numbers.
func gridOf(n int, mask uint64) grid {
	g := make(grid, 1<<ones(mask))
	for u := range g {
		g[u] = make([]int, 1<<(n-ones(mask)))
	}
	for x := range 1 << n {
		u, v := 0, 0
		for j := n - 1; j >= 0; j-- {
			if mask>>j&1 == 1 {
				u = 2*u + x>>j&1
			} else {
				v = 2*v + x>>j&1
			}
		}
		g[u][v] = x
	}
	return g
}

// pivotIn is the pivot's inner and outer number; false, if there is no pivot.
func pivotIn(s api.State, g grid) (p, q int, ok bool) {
	lowest := len(s.Amps)
	for u, row := range g {
		for v, x := range row {
			if s.Amps[x] != (api.Ring{}) && x < lowest {
				p, q, lowest = u, v, x
			}
		}
	}
	return p, q, lowest < len(s.Amps)
}

// split is what Splits tells by the words of a state that is taken.
func split(s api.State, mask uint64) (bool, api.Errno) {
	if mask > all(s.N) {
		return false, api.ErrArg
	}
	g := gridOf(s.N, mask)
	p, q, ok := pivotIn(s, g)
	if !ok {
		return false, api.ErrNull
	}
	m := func(u, v int) api.Ring { return s.Amps[g[u][v]] }
	yes := true
	for u, row := range g {
		for v := range row {
			if u != p && v != q && (refuses(m(u, v), m(p, q)) || refuses(m(u, q), m(p, v))) {
				return false, api.ErrBig
			}
			yes = yes && times(m(u, v), m(p, q)).is(times(m(u, q), m(p, v)))
		}
	}
	return yes, api.OK
}

// parted is what Parts tells by the words of a state that is taken.
func parted(s api.State, mask uint64) (a, b api.State, e api.Errno) {
	switch yes, e := split(s, mask); {
	case e != api.OK:
		return a, b, e
	case !yes:
		return a, b, api.ErrCut
	}
	g := gridOf(s.N, mask)
	p, q, _ := pivotIn(s, g)
	a, b = api.State{N: ones(mask), K: s.K}, api.State{N: s.N - ones(mask), K: s.K}
	for u := range g {
		a.Amps = append(a.Amps, s.Amps[g[u][q]])
	}
	for v := range g[p] {
		b.Amps = append(b.Amps, s.Amps[g[p][v]])
	}
	return formed(a), formed(b), api.OK
}

// multiplied are the products of the elements of two lists, laid on the qubits of mask and on all others; small ones, which ring.Mul needn't be asked for, or such as aren't refused.
func multiplied(a, b []api.Ring, mask uint64) []api.Ring {
	list := make([]api.Ring, len(a)*len(b))
	for u, row := range gridOf(lengthOf(list), mask) {
		for v, x := range row {
			var p powers
			for j, n := range times(a[u], b[v]) {
				p[j] = n.Int64()
			}
			list[x] = p.element()
		}
	}
	return list
}

// lengthOf is how many qubits a list is of.
func lengthOf(list []api.Ring) int {
	n := 0
	for 1<<n < len(list) {
		n++
	}
	return n
}

// joined is what Join tells by the words of two states that are taken.
func joined(a, b api.State, mask uint64) (api.State, api.Errno) {
	if a.N+b.N > most || mask > all(a.N+b.N) || ones(mask) != a.N {
		return api.State{}, api.ErrArg
	}
	for _, r := range a.Amps {
		for _, s := range b.Amps {
			if refuses(r, s) {
				return api.State{}, api.ErrBig
			}
		}
	}
	z := formed(api.State{N: a.N + b.N, K: a.K + b.K, Amps: multiplied(a.Amps, b.Amps, mask)})
	if z.K > power {
		return api.State{}, api.ErrBig
	}
	return z, api.OK
}

// A tally counts what the words told.
type tally struct{ yes, no, refused, wrong int }

func (c *tally) count(yes bool, e api.Errno) {
	switch {
	case e == api.ErrBig:
		c.refused++
	case e != api.OK:
		c.wrong++
	case yes:
		c.yes++
	default:
		c.no++
	}
}

func (c *tally) asMany(t *testing.T, yes, no, refused int) {
	t.Helper()
	if c.yes < yes || c.no < no || c.refused < refused {
		t.Errorf("told too few of a kind: %+v", *c)
	}
}

// holdSplits asks that Splits and Parts tell what the words do.
func holdSplits(t *testing.T, s api.State, mask uint64, c *tally) {
	t.Helper()
	want, wantE := split(s, mask)
	c.count(want, wantE)
	if yes, e := cut.Splits(s, mask); yes != want || e != wantE {
		t.Fatalf("Splits of %v by %b: %v, %d, not %v, %d", few(s), mask, yes, e, want, wantE)
	}
	wantA, wantB, wantE := parted(s, mask)
	a, b, e := cut.Parts(s, mask)
	if !same(a, wantA) || !same(b, wantB) || e != wantE {
		t.Fatalf("Parts of %v by %b: %v, %v, %d, not %v, %v, %d", few(s), mask, few(a), few(b), e, few(wantA), few(wantB), wantE)
	}
	for _, z := range []api.State{a, b} {
		if f := dense.Check(z); e == api.OK && f != api.OK {
			t.Fatalf("Parts of %v by %b: %v, which isn't taken: %d", few(s), mask, few(z), f)
		}
	}
}

// holdJoin asks that Join tells what the words do.
func holdJoin(t *testing.T, a, b api.State, mask uint64, c *tally) {
	t.Helper()
	want, wantE := joined(a, b, mask)
	c.count(true, wantE)
	z, e := cut.Join(a, b, mask)
	if !same(z, want) || e != wantE {
		t.Fatalf("Join of %v and %v by %b: %v, %d, not %v, %d", few(a), few(b), mask, few(z), e, few(want), wantE)
	}
	if f := dense.Check(z); e == api.OK && f != api.OK {
		t.Fatalf("Join of %v and %v by %b: %v, which isn't taken: %d", few(a), few(b), mask, few(z), f)
	}
}

// taken asks that dense takes a state of these tests.
func taken(t *testing.T, s api.State) api.State {
	t.Helper()
	if e := dense.Check(s); e != api.OK {
		t.Fatalf("%v: %d", few(s), e)
	}
	return s
}

// lists are all of so many elements of a pool.
func lists(pool []api.Ring, length int) [][]api.Ring {
	if length == 0 {
		return [][]api.Ring{nil}
	}
	var z [][]api.Ring
	for _, list := range lists(pool, length-1) {
		for _, r := range pool {
			z = append(z, append(list[:length-1:length-1], r))
		}
	}
	return z
}

// P22.1: all masks of all states of up to three qubits whose elements are of a small pool.
func TestAllSmallStates(t *testing.T) {
	w := api.Ring{B: 1}
	pool := []api.Ring{{}, number(1), number(-1), {A: 1i}, w, number(2), {A: 1, B: 1}}
	var c tally
	for n, pool := range [][]api.Ring{pool, pool, pool, {{}, number(1), w}} {
		for _, list := range lists(pool, 1<<n) {
			for _, k := range []int{0, 3} {
				s := formed(api.State{N: n, K: k, Amps: list})
				for mask := range uint64(1 << n) {
					holdSplits(t, s, mask, &c)
				}
			}
		}
	}
	c.asMany(t, 30000, 50000, 0)
}

// states are some of n qubits: products by a mask, such that differ from one by one element, and such as are none; with parts of all lengths, and with K from 0 to MaxPower.
func states(t *testing.T, s *source, n int, mask uint64) []api.State {
	t.Helper()
	list := []api.State{basis(n, 0), basis(n, 1<<n-1), basis(n, s.below(1<<n)), null(n)}
	for _, length := range []int{1, 3, 12, 13, 24} {
		for _, k := range []int{0, 1, 2, 30, power - 1, power} {
			z := s.product(n, mask, length, k)
			at := s.below(len(z.Amps))
			r := z.Amps[at]
			other := pick(s, s.element(length), api.Ring{}, api.Ring{A: r.A + 1, B: r.B}, api.Ring{A: r.A, B: r.B - 1i}, api.Ring{A: r.B * 1i, B: r.A + 0})
			other.A, other.B = other.A+0, other.B+0 // no noughts with a sign
			list = append(list, z, formed(changed(z, at, other)))
		}
	}
	for _, length := range []int{1, 5, 26, 27, 40, 53, 54} {
		list = append(list, s.state(n, length, pick(s, 0, 1, 2, 17, power-1, power)))
	}
	for _, z := range list {
		taken(t, z)
	}
	return list
}

// P22.1: all masks of states on up to three qubits, of all sorts.
func TestAllMasks(t *testing.T) {
	s := source(1)
	var c tally
	for n := range 4 {
		for made := range uint64(1 << n) {
			for range 6 {
				for _, z := range states(t, &s, n, made) {
					for mask := range uint64(1 << n) {
						holdSplits(t, z, mask, &c)
					}
				}
			}
		}
	}
	c.asMany(t, 2000, 2000, 500)
}

// P22.1: some masks of states on more qubits: those by which they were made among them.
func TestManyMasks(t *testing.T) {
	s := source(2)
	var c tally
	for n := 4; n <= most; n++ {
		for range 1 + 16>>(n-4) {
			made := s.mask(n)
			for _, z := range states(t, &s, n, made) {
				for _, mask := range []uint64{made, all(n) &^ made, s.mask(n), 1 << s.below(n)} {
					holdSplits(t, z, mask, &c)
				}
			}
		}
	}
	c.asMany(t, 1000, 1000, 500)
}

// P22.1: each mask of ten qubits, of a product over it and of one that differs from that in one element.
func TestEachMaskOfTen(t *testing.T) {
	s := source(3)
	var c tally
	for mask := range uint64(1 << most) {
		a, b := s.elements(ones(mask), 3), s.elements(most-ones(mask), 3)
		a[s.below(len(a))], b[s.below(len(b))] = number(3), number(1)
		z := formed(api.State{N: most, K: s.below(5), Amps: multiplied(a, b, mask)})
		if s.below(2) == 0 {
			at := s.below(len(z.Amps))
			z = formed(changed(z, at, api.Ring{A: z.Amps[at].A + 3, B: z.Amps[at].B}))
		}
		holdSplits(t, z, mask, &c)
	}
	c.asMany(t, 300, 300, 0)
}

// P22.1: one element of a product is changed, each of them once, so that the first as well as the last one shows what is none.
func TestEachElementMatters(t *testing.T) {
	s := source(4)
	var c tally
	for n := 2; n <= 6; n++ {
		for range 4 {
			mask := s.maskOf(n, 1+s.below(n-1))
			a, b := s.elements(ones(mask), 2), s.elements(n-ones(mask), 2)
			for _, list := range [][]api.Ring{a, b} {
				for x := range list {
					list[x].A += 4 // none is nought: each place matters
				}
			}
			z := api.State{N: n, Amps: multiplied(a, b, mask)}
			holdSplits(t, z, mask, &c)
			if yes, e := cut.Splits(z, mask); !yes || e != api.OK {
				t.Fatalf("Splits of %v by %b: %v, %d", few(z), mask, yes, e)
			}
			for at, r := range z.Amps {
				one := changed(z, at, api.Ring{A: r.A, B: r.B + 1})
				holdSplits(t, one, mask, &c)
				if yes, e := cut.Splits(one, mask); yes || e != api.OK {
					t.Fatalf("Splits of %v by %b, changed at %d: %v, %d", few(z), mask, at, yes, e)
				}
			}
		}
	}
	c.asMany(t, 20, 400, 0)
}

// P22.1: one great element, at each place, with all others small: which products are named decides what is refused.
func TestEachGreatElement(t *testing.T) {
	s := source(5)
	var c tally
	for n := 1; n <= 5; n++ {
		for range 8 {
			z := api.State{N: n, Amps: s.elements(n, 2)}
			for at := range z.Amps {
				one := changed(z, at, pick(&s, number(top), api.Ring{B: -top}, api.Ring{A: top * 1i}))
				for range 3 {
					holdSplits(t, one, s.mask(n), &c)
				}
				two := changed(one, s.below(len(z.Amps)), number(2))
				holdSplits(t, two, s.mask(n), &c)
			}
		}
	}
	c.asMany(t, 100, 100, 100)
}

// P22.1: Join by all masks of all pairs of states on up to four qubits together.
func TestJoinByAllMasks(t *testing.T) {
	s := source(6)
	var c tally
	for n := range 5 {
		for in := range n + 1 {
			for range 12 {
				for _, k := range [][2]int{{0, 0}, {0, 1}, {3, 0}, {30, 30}, {30, 31}, {31, 31}, {60, 0}, {60, 1}, {60, 60}} {
					a, b := s.state(in, s.below(27), k[0]), s.state(n-in, s.below(27), k[1])
					for mask := range uint64(1 << n) {
						holdJoin(t, a, b, mask, &c)
					}
				}
			}
		}
	}
	if c.yes < 1000 || c.refused < 1000 || c.wrong < 1000 {
		t.Errorf("told too few of a kind: %+v", c)
	}
}

// P22.1: by some masks on more qubits, with parts of all lengths.
func TestJoinOfMany(t *testing.T) {
	s := source(7)
	var c tally
	for n := 5; n <= most; n++ {
		for in := range n + 1 {
			for range 2 + 16>>(n-5) {
				k := s.below(power + 1)
				a, b := s.state(in, pick(&s, 1, 12, 24, 27, 54), k), s.state(n-in, pick(&s, 0, 1, 12, 24, 27), power-k+pick(&s, 0, 0, 1)*min(1, k))
				holdJoin(t, a, b, s.maskOf(n, in), &c)
			}
		}
	}
	if c.yes < 50 || c.refused < 50 {
		t.Errorf("told too few of a kind: %+v", c)
	}
}

// P22.1: by each mask of ten qubits.
func TestJoinByEachMaskOfTen(t *testing.T) {
	s := source(8)
	var c tally
	for mask := range uint64(1 << most) {
		in := ones(mask)
		holdJoin(t, s.state(in, 9, s.below(4)), s.state(most-in, 9, s.below(4)), mask, &c)
	}
	if c.yes != 1<<most {
		t.Errorf("told too few: %+v", c)
	}
}
