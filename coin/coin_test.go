package coin_test

import (
	"math"
	"testing"

	"cubit/api"
	"cubit/coin"
)

const top = api.MaxPart

// The shapes of the functions, as the chapter gives them.
var (
	_ func(api.Coin) api.Errno                                   = coin.Check
	_ func(c api.Coin, one, all api.Root) (int, bool, api.Errno) = coin.Toss
	_ func(n int, one, all api.Root) (uint64, api.Errno)         = coin.Shown
	_ func(api.Coin) (string, api.Errno)                         = coin.Text
	_ func(string) (api.Coin, api.Errno)                         = coin.Parse
)

// at is (p + q r) / 2^k, as it stands.
func at(p, q int64, k int) api.Root { return api.Root{P: p, Q: q, K: k} }

// of is num over 2^n, as it stands.
func of(num uint64, n int) api.Coin { return api.Coin{Num: num, Len: n} }

func TestNumbers(t *testing.T) {
	for e, n := range map[api.Errno]int{api.OK: 0, api.ErrArg: 2, api.ErrBig: 3, api.ErrNumber: 22, api.ErrNull: 131} {
		if int(e) != n {
			t.Errorf("%d is not %d", e, n)
		}
	}
}

func rightCoins() []api.Coin {
	l := []api.Coin{of(0, 0), of(0, 1), of(1, 1), of(3, 3), of(7, 3), of(0, 16), of(65535, 16)}
	for n := range api.MaxCoin + 1 {
		l = append(l, of(0, n), of(1<<n-1, n), of((1<<n-1)/2, n))
	}
	return l
}

func wrongCoins() []api.Coin {
	l := []api.Coin{of(8, 3), of(9, 3), of(65536, 16), of(0, 17), of(1<<17-1, 17), of(0, -1), of(1, -1), of(0, 63), of(0, 64), of(1, 64), of(0, 65), of(1<<63, 63)}
	for n := range api.MaxCoin + 1 {
		l = append(l, of(1<<n, n), of(1<<n+1, n), of(1<<32, n), of(1<<63, n), of(math.MaxUint64, n))
	}
	for _, n := range []int{math.MinInt, math.MinInt + 1, -64, -63, -16, 128, 1 << 32, 1<<32 + 3, math.MaxInt - 1, math.MaxInt} {
		l = append(l, of(0, n), of(1, n), of(math.MaxUint64, n))
	}
	return l
}

func TestCheck(t *testing.T) {
	for _, c := range rightCoins() {
		if e := coin.Check(c); e != api.OK {
			t.Errorf("Check(%v): %d", c, e)
		}
	}
	for _, c := range wrongCoins() {
		if e := coin.Check(c); e != api.ErrArg {
			t.Errorf("Check(%v): %d", c, e)
		}
	}
}

// TestToss: the chapter's examples first, then those of the whole, and some by hand.
func TestToss(t *testing.T) {
	none, half, all := at(0, 0, 0), at(1, 0, 1), at(1, 0, 0)
	for _, c := range []struct {
		c        api.Coin
		one, all api.Root
		outcome  int
		certain  bool
		e        api.Errno
	}{
		{of(0, 1), half, all, 1, false, api.OK},
		{of(1, 1), half, all, 0, false, api.OK},
		{of(0, 0), half, all, 1, false, api.OK},
		{of(0, 0), none, all, 0, true, api.OK},
		{of(65535, 16), none, all, 0, true, api.OK},
		{of(0, 0), all, all, 1, true, api.OK},
		{of(65535, 16), all, all, 1, true, api.OK},
		{of(0, 0), none, none, 0, false, api.ErrNull},
		{of(0, 0), at(2, 0, 0), all, 0, false, api.ErrArg},
		{of(3, 3), half, all, 1, false, api.OK},
		{of(4, 3), half, all, 0, false, api.OK},
		{of(1, 3), at(2, -1, 2), all, 1, false, api.OK},
		{of(2, 3), at(2, -1, 2), all, 0, false, api.OK},
		{of(9597, 16), at(2, -1, 2), all, 1, false, api.OK}, // 65536 * 0.1464.. is 9597.6..
		{of(9598, 16), at(2, -1, 2), all, 0, false, api.OK},
		{of(0, 16), at(1, 0, 60), all, 1, false, api.OK}, // small, but not nought
		{of(1, 16), at(1, 0, 60), all, 0, false, api.OK},
		{of(0, 0), at(1, 0, 60), at(1, 0, 60), 1, true, api.OK},
		{of(5, 4), at(1, 0, 60), at(3, 0, 60), 1, false, api.OK}, // 15 is below 16
		{of(6, 4), at(1, 0, 60), at(3, 0, 60), 0, false, api.OK},
		{of(11, 4), at(0, 1, 1), at(1, 0, 0), 1, false, api.OK}, // 16 * 0.7071.. is 11.3..
		{of(12, 4), at(0, 1, 1), at(1, 0, 0), 0, false, api.OK},
		{of(6, 3), at(7, 0, 3), at(1, 0, 0), 1, false, api.OK},
		{of(7, 3), at(7, 0, 3), at(1, 0, 0), 0, false, api.OK},
		{of(1, 1), at(1, 0, 0), at(2, 0, 0), 0, false, api.OK}, // all needn't be 1
		{of(1, 1), at(1, 0, 0), at(0, 1, 0), 1, false, api.OK},
		{of(1, 1), at(-1, 1, 0), at(1, 0, 0), 0, false, api.OK}, // 0.4142..
		{of(1, 1), at(2, -1, 0), at(1, 0, 0), 1, false, api.OK}, // 0.5857..
		{of(0, 0), at(0, 0, 0), at(top, 0, 0), 0, true, api.OK},
		{of(0, 0), at(top, 0, 0), at(top, 0, 0), 1, true, api.OK},
		{of(0, 0), at(top-1, 0, 0), at(top, 0, 0), 1, false, api.OK},
		{of(0, 0), at(top, top, 60), at(top, top, 0), 1, false, api.OK},
	} {
		outcome, certain, e := coin.Toss(c.c, c.one, c.all)
		if outcome != c.outcome || certain != c.certain || e != c.e {
			t.Errorf("Toss(%v, %v, %v): %d, %v, %d, not %d, %v, %d", c.c, c.one, c.all, outcome, certain, e, c.outcome, c.certain, c.e)
		}
	}
}

func TestShown(t *testing.T) {
	for _, c := range []struct {
		n        int
		one, all api.Root
		want     uint64
	}{
		{1, at(1, 0, 1), at(1, 0, 0), 1},
		{3, at(2, -1, 2), at(1, 0, 0), 2},
		{16, at(2, -1, 2), at(1, 0, 0), 9598},
		{0, at(0, 0, 0), at(1, 0, 0), 0},
		{0, at(1, 0, 60), at(1, 0, 0), 1}, // rounded up
		{0, at(1, 0, 0), at(1, 0, 0), 1},
		{16, at(0, 0, 0), at(1, 0, 0), 0},
		{16, at(1, 0, 0), at(1, 0, 0), 65536},
		{16, at(1, 0, 60), at(1, 0, 0), 1},
		{16, at(1, 0, 16), at(1, 0, 0), 1},
		{16, at(3, 0, 17), at(1, 0, 0), 2},
		{4, at(1, 0, 0), at(3, 0, 0), 6},
		{4, at(2, 0, 0), at(3, 0, 0), 11},
		{5, at(0, 1, 1), at(1, 0, 0), 23}, // 32 * 0.7071.. is 22.6..
		{16, at(1<<37-2, 0, 0), at(1<<37-1, 0, 0), 65536},
	} {
		if m, e := coin.Shown(c.n, c.one, c.all); m != c.want || e != api.OK {
			t.Errorf("Shown(%d, %v, %v): %d, %d, not %d", c.n, c.one, c.all, m, e, c.want)
		}
	}
}

// TestShare: coins of any Len against a half, a quarter and three quarters.
func TestShare(t *testing.T) {
	for n := 2; n <= api.MaxCoin; n++ {
		for quarters := int64(0); quarters <= 4; quarters++ {
			one := map[int64]api.Root{0: {}, 1: at(1, 0, 2), 2: at(1, 0, 1), 3: at(3, 0, 2), 4: at(1, 0, 0)}[quarters]
			if m, e := coin.Shown(n, one, at(1, 0, 0)); m != uint64(quarters)<<(n-2) || e != api.OK {
				t.Errorf("Shown(%d, %v, 1): %d, %d", n, one, m, e)
			}
		}
	}
}
