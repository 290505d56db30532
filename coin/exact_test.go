package coin_test

import (
	exact "math/big"
	"testing"

	"cubit/api"
	"cubit/coin"
)

// Weights once more, with whole numbers of any length: (p + q r) / 2^k, r the square root of 2.

type value struct {
	p, q *exact.Int
	k    int
}

func valueOf(a api.Root) value { return value{exact.NewInt(a.P), exact.NewInt(a.Q), a.K} }

// over is the same value with a greater k.
func (v value) over(k int) value {
	n := uint(k - v.k)
	return value{new(exact.Int).Lsh(v.p, n), new(exact.Int).Lsh(v.q, n), k}
}

func (v value) less(u value) value {
	k := max(v.k, u.k)
	v, u = v.over(k), u.over(k)
	return value{v.p.Sub(v.p, u.p), v.q.Sub(v.q, u.q), k}
}

func (v value) times(n uint64) value {
	m := new(exact.Int).SetUint64(n)
	return value{new(exact.Int).Mul(v.p, m), new(exact.Int).Mul(v.q, m), v.k}
}

// sign: the square root of 2 q^2 is no whole number, so that p and it are told apart by the whole numbers below.
func (v value) sign() int {
	switch v.q.Sign() {
	case 0:
		return v.p.Sign()
	case -1:
		return -value{new(exact.Int).Neg(v.p), new(exact.Int).Neg(v.q), v.k}.sign()
	}
	below := new(exact.Int).Mul(v.q, v.q)
	below.Sqrt(below.Lsh(below, 1))
	if below.Add(below, v.p).Sign() >= 0 {
		return 1
	}
	return -1
}

// beyond: is a part beyond MaxPart?
func (v value) beyond() bool {
	most := exact.NewInt(api.MaxPart)
	return v.p.CmpAbs(most) > 0 || v.q.CmpAbs(most) > 0
}

// right: is it a root in its one form?
func right(a api.Root) bool {
	return !valueOf(a).beyond() && a.K >= 0 && a.K <= api.MaxPower && (a.K == 0 || a.P&1 != 0 || a.Q&1 != 0)
}

// fault is what Toss finds wrong with these weights beside a coin of this Len, by the chapter's words.
func fault(n int, one, all api.Root) api.Errno {
	if !right(one) || !right(all) {
		return api.ErrArg
	}
	o, a := valueOf(one), valueOf(all)
	switch {
	case a.sign() == 0:
		return api.ErrNull
	case a.sign() < 0, o.sign() < 0, o.less(a).sign() > 0:
		return api.ErrArg
	case o.times(1 << n).beyond(), a.times(1 << n).beyond():
		return api.ErrBig
	}
	return api.OK
}

// told is Toss by the chapter's words.
func told(c api.Coin, one, all api.Root) (int, bool, api.Errno) {
	if c.Len < 0 || c.Len > api.MaxCoin || c.Num >= 1<<c.Len {
		return 0, false, api.ErrArg
	}
	if e := fault(c.Len, one, all); e != api.OK {
		return 0, false, e
	}
	o, a := valueOf(one), valueOf(all)
	certain := o.sign() == 0 || o.less(a).sign() == 0
	if a.times(c.Num).less(o.times(1<<c.Len)).sign() < 0 {
		return 1, certain, api.OK
	}
	return 0, certain, api.OK
}

// least is Shown by P16.2's words, gone up from below a bit at a time.
func least(n int, one, all api.Root) (uint64, api.Errno) {
	if n < 0 || n > api.MaxCoin {
		return 0, api.ErrArg
	}
	if e := fault(n, one, all); e != api.OK {
		return 0, e
	}
	bound, a := valueOf(one).times(1<<n), valueOf(all)
	m := uint64(0)
	for bit := uint64(1) << 17; bit > 0; bit /= 2 {
		if a.times(m+bit-1).less(bound).sign() < 0 {
			m += bit
		}
	}
	return m, api.OK
}

func holdToss(t *testing.T, c api.Coin, one, all api.Root) (int, bool, api.Errno) {
	t.Helper()
	want, wantCertain, wantE := told(c, one, all)
	got, certain, e := coin.Toss(c, one, all)
	if got != want || certain != wantCertain || e != wantE {
		t.Fatalf("Toss(%v, %v, %v): %d, %v, %d, not %d, %v, %d", c, one, all, got, certain, e, want, wantCertain, wantE)
	}
	return got, certain, e
}

func holdShown(t *testing.T, n int, one, all api.Root) (uint64, api.Errno) {
	t.Helper()
	want, wantE := least(n, one, all)
	m, e := coin.Shown(n, one, all)
	if m != want || e != wantE {
		t.Fatalf("Shown(%d, %v, %v): %d, %d, not %d, %d", n, one, all, m, e, want, wantE)
	}
	return m, e
}

// TestExact holds both calls against the chapter's words, with coins on either side of the edge and at it.
func TestExact(t *testing.T) {
	s := source(1)
	outcomes, errors := map[int]int{}, map[api.Errno]int{}
	for range 6000 {
		for _, c := range [][2]int{{2, 0}, {3, 3}, {9, 9}, {30, 20}, {36, 36}, {38, 60}, {44, 10}, {53, 3}} {
			one, all := s.weights(c[0], c[1])
			n := s.below(api.MaxCoin + 1)
			m, _ := holdShown(t, n, one, all)
			outcome, _, e := holdToss(t, s.coin(n, m), one, all)
			errors[e]++
			if e == api.OK {
				outcomes[outcome]++
			}
		}
	}
	for _, e := range []api.Errno{api.OK, api.ErrArg, api.ErrBig, api.ErrNull} {
		if errors[e] < 200 {
			t.Errorf("error %d: %d times only", e, errors[e])
		}
	}
	if outcomes[0] < 2000 || outcomes[1] < 2000 {
		t.Errorf("outcomes: %v", outcomes)
	}
}

// near are pairs of weights that lie near one another, or whose parts nearly cancel.
func near() [][2]api.Root {
	var l [][2]api.Root
	for _, k := range []int{0, 1, 7, 36, api.MaxPower} {
		l = append(l,
			[2]api.Root{at(1607521, 0, 0), at(0, 1136689, 0)}, // 1607521^2 is 2 1136689^2 - 1
			[2]api.Root{at(0, 470832, 0), at(665857, 0, 0)},   // 665857^2 is 2 470832^2 + 1
			[2]api.Root{at(4478554083, -1, k), at(-1, 3166815962, k)},
			[2]api.Root{at(-1, 3166815962, k), at(4478554083, 1, k)},
			[2]api.Root{at(3, -2, k), at(665857, -470832, 0)},
			[2]api.Root{at(665857, -470832, 0), at(3, -2, k)},
			[2]api.Root{at(-7, 5, k), at(1, 0, k)},
		)
	}
	return l
}

// TestNear: at Len 0 and above, as long as the products fit, each of both against the other, and each against itself with a part one more or less.
func TestNear(t *testing.T) {
	fits := 0
	for _, l := range near() {
		for n := range api.MaxCoin + 1 {
			for _, w := range [][2]api.Root{l, {l[1], l[0]}, {l[0], l[0]}, {l[0], at(l[0].P+1, l[0].Q, l[0].K)}, {l[0], at(l[0].P, l[0].Q+2, l[0].K)}, {at(l[1].P, l[1].Q-2, l[1].K), l[1]}} {
				m, e := holdShown(t, n, w[0], w[1])
				for _, num := range []uint64{0, m - 1, m, m + 1, 1<<n - 1, 1 << n} {
					holdToss(t, api.Coin{Num: num, Len: n}, w[0], w[1])
				}
				if e == api.OK {
					fits++
				}
			}
		}
	}
	if fits < 1000 {
		t.Errorf("only %d fit", fits)
	}
}

// TestEdgeOfBound: the P or the Q of 2^Len times one, or times all, just within MaxPart and just beyond it, of either sign, with K at both ends.
func TestEdgeOfBound(t *testing.T) {
	found := map[api.Errno]int{}
	for n := range api.MaxCoin + 1 {
		most := int64(api.MaxPart) >> n
		parts := []int64{0, 1, -1, most - 1, most, min(most+1, api.MaxPart), 1 - most, -most, max(-most-1, -api.MaxPart), api.MaxPart, -api.MaxPart}
		for _, p := range parts {
			for _, q := range parts {
				for _, k := range []int{0, 1, api.MaxPower} {
					a := at(p, q, k)
					for _, b := range []api.Root{at(0, 0, 0), at(1, 0, 0), at(1, 0, 60), at(3, -2, 60), at(most, 0, 0), at(most, most, 0), at(most, most&^1-1, 60), a} {
						for _, w := range [][2]api.Root{{a, b}, {b, a}} {
							_, e := holdShown(t, n, w[0], w[1])
							holdToss(t, api.Coin{Len: n}, w[0], w[1])
							holdToss(t, api.Coin{Num: 1<<n - 1, Len: n}, w[0], w[1])
							found[e]++
						}
					}
				}
			}
		}
	}
	for _, e := range []api.Errno{api.OK, api.ErrArg, api.ErrBig, api.ErrNull} {
		if found[e] < 200 {
			t.Errorf("error %d: %d times only", e, found[e])
		}
	}
}
