package coin_test

import (
	"testing"

	"cubit/api"
	"cubit/coin"
	"cubit/root"
)

// pairs of weights that fit, ordinary ones and such at the edges, all of them small enough for each Len.
func pairs(t *testing.T) [][2]api.Root {
	t.Helper()
	one := at(1, 0, 0)
	l := [][2]api.Root{
		{at(0, 0, 0), one}, {one, one}, {at(1, 0, 1), one}, {at(1, 0, 60), one}, {at(0, 1, 1), one}, {at(2, -1, 2), one}, {at(2, 1, 2), one}, {at(-1, 1, 0), one}, {at(3, -2, 0), one},
		{at(1, 0, 16), one}, {at(1, 0, 15), one}, {at(65535, 0, 16), one}, {at(131071, 0, 17), one}, {one, at(3, 0, 0)}, {at(2, 0, 0), at(3, 0, 0)}, {at(665857, -470832, 0), at(3, -2, 10)}, {at(-7, 5, 3), at(7, 5, 2)},
		{at(1<<37-2, 0, 0), at(1<<37-1, 0, 0)}, {at(1-1<<37, 1<<37-1, 60), at(1, 0, 0)}, {at(0, 1<<36, 0), at(1<<36, 1<<36, 0)},
	}
	s := source(2)
	for len(l) < 400 {
		a, b := s.weights(1+s.below(37), s.below(api.MaxPower+1))
		if fault(api.MaxCoin, a, b) == api.OK {
			l = append(l, [2]api.Root{a, b})
		}
	}
	for _, w := range l {
		if e := fault(api.MaxCoin, w[0], w[1]); e != api.OK {
			t.Fatalf("%v and %v don't fit: %d", w[0], w[1], e)
		}
		l = append(l, [2]api.Root{{}, w[1]}, [2]api.Root{w[1], w[1]})
	}
	return l
}

// TestLowestTellOne (P16.2): all coins of one Len, tossed one by one.
func TestLowestTellOne(t *testing.T) {
	ones, noughts := 0, 0
	for i, w := range pairs(t) {
		for n := range api.MaxCoin + 1 {
			if n > 6 && (i+n)%20 != 0 {
				continue
			}
			m, e := coin.Shown(n, w[0], w[1])
			if e != api.OK {
				t.Fatalf("Shown(%d, %v, %v): %d", n, w[0], w[1], e)
			}
			for num := range uint64(1) << n {
				outcome, _, e := coin.Toss(of(num, n), w[0], w[1])
				if (outcome == 1) != (num < m) || (outcome == 0) != (num >= m) || e != api.OK {
					t.Fatalf("Toss(%d/2^%d, %v, %v): %d, %d, but Shown is %d", num, n, w[0], w[1], outcome, e, m)
				}
				ones += outcome
				noughts += 1 - outcome
			}
		}
	}
	if ones < 10000 || noughts < 10000 {
		t.Errorf("%d ones, %d noughts", ones, noughts)
	}
}

// TestLeast (P16.2): m times all is not below 2^n times one, and m less 1 times all is.
func TestLeast(t *testing.T) {
	for _, w := range pairs(t) {
		for n := range api.MaxCoin + 1 {
			m, e := coin.Shown(n, w[0], w[1])
			if e != api.OK {
				t.Fatalf("Shown(%d, %v, %v): %d", n, w[0], w[1], e)
			}
			bound := valueOf(w[0]).times(1 << n)
			if valueOf(w[1]).times(m).less(bound).sign() < 0 || m > 0 && valueOf(w[1]).times(m-1).less(bound).sign() >= 0 {
				t.Errorf("Shown(%d, %v, %v): %d is not the least", n, w[0], w[1], m)
			}
		}
	}
}

// TestBothShares (P16.2): Shown of one and of all less one add up to 2^n, or to one more.
func TestBothShares(t *testing.T) {
	even, odd := 0, 0
	for _, w := range pairs(t) {
		rest, e := root.Sub(w[1], w[0])
		if e != api.OK {
			continue
		}
		for n := range api.MaxCoin + 1 {
			m, e := coin.Shown(n, w[0], w[1])
			k, f := coin.Shown(n, rest, w[1])
			if e != api.OK || f != api.OK {
				continue
			}
			switch m + k {
			case 1 << n:
				even++
			case 1<<n + 1:
				odd++
			default:
				t.Errorf("Shown(%d, of %v and %v, %v): %d and %d", n, w[0], rest, w[1], m, k)
			}
		}
	}
	if even < 1000 || odd < 1000 {
		t.Errorf("%d times 2^n, %d times one more", even, odd)
	}
}

// TestCertain (P16.3): certain is told of nought and all alone, of any coin, and then the outcome is one and the same.
func TestCertain(t *testing.T) {
	sure, open := 0, 0
	for _, w := range pairs(t) {
		want := w[0] == api.Root{} || w[0] == w[1]
		for _, c := range rightCoins() {
			outcome, certain, e := coin.Toss(c, w[0], w[1])
			if certain != want || e != api.OK {
				t.Errorf("Toss(%v, %v, %v): certain %v, %d", c, w[0], w[1], certain, e)
			}
			if certain && (outcome == 1) != (w[0] == w[1]) {
				t.Errorf("Toss(%v, %v, %v): %d, and certain", c, w[0], w[1], outcome)
			}
			if certain {
				sure++
			} else {
				open++
			}
		}
	}
	if sure < 1000 || open < 1000 {
		t.Errorf("%d certain, %d not", sure, open)
	}
}

// TestScaledAlike: the same share of a greater all is told alike, as long as the products fit.
func TestScaledAlike(t *testing.T) {
	scales := []api.Root{at(3, 0, 0), at(1, 0, 5), at(0, 1, 0), at(3, 2, 1), at(3, -2, 0)}
	same := 0
	for _, w := range pairs(t) {
		for _, scale := range scales {
			one, e := root.Mul(w[0], scale)
			all, f := root.Mul(w[1], scale)
			if e != api.OK || f != api.OK {
				continue
			}
			for _, n := range []int{0, 1, 5, api.MaxCoin} {
				m, e := coin.Shown(n, w[0], w[1])
				k, f := coin.Shown(n, one, all)
				if e != api.OK || f != api.OK {
					continue
				}
				same++
				if m != k {
					t.Errorf("Shown(%d, %v, %v) is %d, but %d with both times %v", n, w[0], w[1], m, k, scale)
				}
			}
		}
	}
	if same < 1000 {
		t.Errorf("only %d could be told", same)
	}
}
