package coin_test

import (
	"math"
	"testing"

	"cubit/api"
	"cubit/coin"
)

// wrongRoots: none of these is a root in its one form.
func wrongRoots() []api.Root {
	l := []api.Root{
		at(0, 0, 1), at(2, 0, 1), at(0, 2, 1), at(-2, 4, 60), at(1, 0, 61), at(1, 0, -1), at(0, 0, -1), at(0, 0, 61), at(1, 0, math.MinInt), at(1, 0, math.MaxInt), at(0, 0, math.MaxInt),
		at(top+1, 0, 0), at(-top-1, 0, 0), at(0, top+1, 0), at(0, -top-1, 0), at(top+1, 1, 1),
	}
	for _, p := range []int64{math.MinInt64, math.MinInt64 + 1, math.MaxInt64} {
		l = append(l, at(p, 0, 0), at(0, p, 0), at(p, p, 0), at(p, 1, 60))
	}
	return l
}

func refuses(t *testing.T, c api.Coin, one, all api.Root, want api.Errno) {
	t.Helper()
	if outcome, certain, e := coin.Toss(c, one, all); outcome != 0 || certain || e != want {
		t.Errorf("Toss(%v, %v, %v): %d, %v, %d, not %d", c, one, all, outcome, certain, e, want)
	}
	if m, e := coin.Shown(c.Len, one, all); m != 0 || e != want {
		t.Errorf("Shown(%d, %v, %v): %d, %d, not %d", c.Len, one, all, m, e, want)
	}
}

// TestWrongWeights: in either place, beside a weight that fits, that is nought, below nought, too great, or wrong too.
func TestWrongWeights(t *testing.T) {
	for _, a := range wrongRoots() {
		for _, b := range []api.Root{at(0, 0, 0), at(1, 0, 0), at(-1, 0, 0), at(top, top, 0), at(-top, top, 60), a} {
			for _, c := range rightCoins() {
				refuses(t, c, a, b, api.ErrArg)
				refuses(t, c, b, a, api.ErrArg)
			}
		}
	}
}

// TestWrongCoins: ahead of all that may be wrong with the weights.
func TestWrongCoins(t *testing.T) {
	weights := [][2]api.Root{{at(1, 0, 1), at(1, 0, 0)}, {at(0, 0, 0), at(1, 0, 0)}, {at(1, 0, 0), at(1, 0, 0)}, {at(0, 0, 0), at(0, 0, 0)}, {at(top, 0, 0), at(top, 0, 0)}, {at(2, 0, 1), at(0, 0, 1)}, {at(2, 0, 0), at(1, 0, 0)}}
	for _, c := range wrongCoins() {
		for _, w := range weights {
			if outcome, certain, e := coin.Toss(c, w[0], w[1]); outcome != 0 || certain || e != api.ErrArg {
				t.Errorf("Toss(%v, %v, %v): %d, %v, %d", c, w[0], w[1], outcome, certain, e)
			}
		}
		if s, e := coin.Text(c); s != "" || e != api.ErrArg {
			t.Errorf("Text(%v): %q, %d", c, s, e)
		}
	}
	for _, n := range []int{-1, api.MaxCoin + 1, -16, 63, 64, 65, 1 << 32, math.MinInt, math.MaxInt} {
		for _, w := range weights {
			if m, e := coin.Shown(n, w[0], w[1]); m != 0 || e != api.ErrArg {
				t.Errorf("Shown(%d, %v, %v): %d, %d", n, w[0], w[1], m, e)
			}
		}
	}
}

// TestOrderOfErrors: two and more are wrong at once.
func TestOrderOfErrors(t *testing.T) {
	none := at(0, 0, 0)
	for _, c := range []struct {
		n        int
		one, all api.Root
		e        api.Errno
	}{
		{0, at(2, 0, 1), none, api.ErrArg},           // one is no root, ahead of all that is nought
		{0, at(1, 0, 0), at(0, 0, 1), api.ErrArg},    // a nought that isn't in its one form
		{0, at(1, 0, 0), none, api.ErrNull},          // ahead of one above all
		{0, at(-1, 0, 0), none, api.ErrNull},         // ahead of one below nought
		{16, at(top, 0, 0), none, api.ErrNull},       // ahead of the size
		{16, at(-top, 0, 0), none, api.ErrNull},      // ahead of both
		{16, at(top, 0, 0), at(1, 0, 0), api.ErrArg}, // one above all, ahead of the size
		{16, at(1, 0, 0), at(-top, 0, 0), api.ErrArg},
		{16, none, at(-top, 0, 0), api.ErrArg},
		{16, at(-top, 0, 0), at(-top, 0, 0), api.ErrArg},
		{16, at(-top, 0, 0), at(1, 0, 0), api.ErrArg},
		{16, at(-1, 0, 0), at(top, 0, 0), api.ErrArg},
		{16, none, at(top, 0, 0), api.ErrBig}, // certain, but too great
		{16, at(top, 0, 0), at(top, 0, 0), api.ErrBig},
	} {
		refuses(t, of(0, c.n), c.one, c.all, c.e)
	}
}

// TestDontFit: all below nought, one below nought, one above all, by as little as can be.
func TestDontFit(t *testing.T) {
	for _, w := range [][2]api.Root{
		{at(2, 0, 0), at(1, 0, 0)}, {at(-1, 0, 0), at(1, 0, 0)}, {at(-1, 0, 60), at(1, 0, 0)}, {at(0, 0, 0), at(-1, 0, 0)}, {at(0, 0, 0), at(-1, 0, 60)}, {at(-2, 0, 0), at(-1, 0, 0)}, {at(-1, 0, 0), at(-1, 0, 0)},
		{at(7, -5, 0), at(1, 0, 0)}, {at(-3, 2, 0), at(1, 0, 0)}, {at(0, 0, 0), at(7, -5, 0)}, {at(0, 0, 0), at(-665857, 470832, 0)}, {at(-665857, 470832, 60), at(1, 0, 0)},
		{at(0, 1, 0), at(1, 0, 0)}, {at(665857, 0, 0), at(0, 470832, 0)}, {at(0, 1136689, 0), at(1607521, 0, 0)}, {at(3, 0, 1), at(0, 1, 0)}, {at(1<<52+1, 0, 60), at(1, 0, 8)}, {at(1, 0, 0), at(1, 0, 60)}, {at(1, 0, 59), at(1, 0, 60)}, {at(0, 0, 0), at(0, -1, 0)}, {at(0, -1, 0), at(1, 0, 0)},
	} {
		for _, n := range []int{0, 1, 16} {
			refuses(t, of(0, n), w[0], w[1], api.ErrArg)
		}
	}
}

// TestTooGreat: each of the four products by itself, of either sign; one Len less, and it is taken.
func TestTooGreat(t *testing.T) {
	for n := 1; n <= api.MaxCoin; n++ {
		past := int64(top)>>n + 1
		half := past/2 - 1
		for _, w := range [][2]api.Root{
			{at(0, 0, 0), at(past, 0, 0)}, {at(0, 0, 0), at(0, past, 0)}, {at(1, 0, 60), at(past, 1, 60)}, {at(1, 0, 60), at(1, past, 60)},
			{at(1, 0, 60), at(past, -half, 0)}, {at(1, 0, 60), at(-half, past, 0)}, {at(1, 0, 60), at(-past, past-1, 0)},
			{at(past, 1, 60), at(1, 0, 0)}, {at(1, past, 60), at(1, 0, 0)}, {at(past, -half, 60), at(1, 0, 0)}, {at(-half, past, 60), at(1, 0, 0)}, {at(-past, past-1, 60), at(1, 0, 0)},
			{at(past, 0, 0), at(past, 0, 0)},
		} {
			want := fault(n, w[0], w[1])
			refuses(t, of(0, n), w[0], w[1], want)
			if want != api.ErrBig {
				t.Errorf("%v, %v: meant to be refused by size alone, not by %d", w[0], w[1], want)
			}
			if _, _, e := coin.Toss(of(0, n-1), w[0], w[1]); e != api.OK {
				t.Errorf("Toss(0/2^%d, %v, %v): %d", n-1, w[0], w[1], e)
			}
			if _, e := coin.Shown(n-1, w[0], w[1]); e != api.OK {
				t.Errorf("Shown(%d, %v, %v): %d", n-1, w[0], w[1], e)
			}
		}
	}
	// The product is not halved, though all of it could be.
	refuses(t, of(0, 16), at(0, 0, 0), at(1<<37+1, 0, 60), api.ErrBig)
	refuses(t, of(0, 16), at(1<<37+1, 0, 60), at(1, 0, 0), api.ErrBig)
}
