package root_test

import (
	"math"
	"testing"

	"cubit/api"
	"cubit/root"
)

const (
	top   = api.MaxPart
	power = api.MaxPower
)

// two is the shape of the calls that reckon with two roots.
type two = func(a, b api.Root) (api.Root, api.Errno)

// The shapes of the functions, as the chapter gives them.
var (
	_ func(api.Root) api.Errno                      = root.Check
	_ func(p, q int64, k int) (api.Root, api.Errno) = root.Make
	_ two                                           = root.Add
	_ two                                           = root.Sub
	_ two                                           = root.Mul
	_ func(api.Root) (int, api.Errno)               = root.Sign
	_ func(a, b api.Root) (int, api.Errno)          = root.Compare
	_ func(api.Root) (float64, api.Errno)           = root.Float
	_ func(api.Root) (string, api.Errno)            = root.Text
	_ func(string) (api.Root, api.Errno)            = root.Parse
)

// at is (p + q r) / 2^k, as it stands.
func at(p, q int64, k int) api.Root { return api.Root{P: p, Q: q, K: k} }

func TestMake(t *testing.T) {
	for _, c := range []struct {
		p, q int64
		k    int
		want api.Root
		e    api.Errno
	}{
		{2, 4, 3, at(1, 2, 2), api.OK},
		{0, 0, 9, at(0, 0, 0), api.OK},
		{4, 0, 1, at(2, 0, 0), api.OK},
		{1, 0, 61, at(0, 0, 0), api.ErrBig},
		{2, 0, 61, at(1, 0, 60), api.OK},
		{1, 0, -1, at(0, 0, 0), api.ErrArg},
		{0, 0, 0, at(0, 0, 0), api.OK},
		{6, -4, 0, at(6, -4, 0), api.OK}, // with K 0 both may be even
		{6, -4, 1, at(3, -2, 0), api.OK},
		{6, -4, 2, at(3, -2, 1), api.OK},
		{0, -12, 5, at(0, -3, 3), api.OK},
		{1, 2, 60, at(1, 2, 60), api.OK},
		{2, 1, 60, at(2, 1, 60), api.OK},
		{1, 2, 61, at(0, 0, 0), api.ErrBig},
		{2, 1, 61, at(0, 0, 0), api.ErrBig},
		{4, 8, 62, at(1, 2, 60), api.OK},
		{4, 8, 63, at(0, 0, 0), api.ErrBig},
		{top, -top, 60, at(top, -top, 60), api.OK},
		{-top, top, 0, at(-top, top, 0), api.OK},
		{top + 1, 0, 0, at(0, 0, 0), api.ErrBig},
		{0, top + 1, 0, at(0, 0, 0), api.ErrBig},
		{-top - 1, 0, 0, at(0, 0, 0), api.ErrBig},
		{0, -top - 1, 0, at(0, 0, 0), api.ErrBig},
		{top + 1, 0, 1, at(1<<52, 0, 0), api.OK},
		{-top - 1, 2, 1, at(-1<<52, 1, 0), api.OK},
		{top + 1, 1, 1, at(0, 0, 0), api.ErrBig}, // the 1 keeps the other from being halved
		{1, -top - 1, 60, at(0, 0, 0), api.ErrBig},
		{2 * top, -2 * top, 1, at(top, -top, 0), api.OK},
		{2 * top, -2 * top, 61, at(top, -top, 60), api.OK},
		{2 * top, -2 * top, 0, at(0, 0, 0), api.ErrBig},
		{math.MaxInt64, 0, 0, at(0, 0, 0), api.ErrBig},
		{math.MaxInt64, math.MaxInt64, 60, at(0, 0, 0), api.ErrBig},
		{math.MinInt64, 0, 0, at(0, 0, 0), api.ErrBig},
		{math.MinInt64, 0, 10, at(0, 0, 0), api.ErrBig},
		{math.MinInt64, 0, 11, at(-1<<52, 0, 0), api.OK},
		{math.MinInt64, 0, 63, at(-1, 0, 0), api.OK},
		{math.MinInt64, 0, 123, at(-1, 0, 60), api.OK},
		{0, math.MinInt64, 123, at(0, -1, 60), api.OK},
		{math.MinInt64, math.MinInt64, 100, at(-1, -1, 37), api.OK},
		{math.MinInt64, 0, 124, at(0, 0, 0), api.ErrBig},
		{math.MinInt64, 1 << 62, 63, at(-2, 1, 1), api.OK},
		{math.MinInt64, math.MaxInt64, 63, at(0, 0, 0), api.ErrBig},
		{0, 0, math.MaxInt, at(0, 0, 0), api.OK},
		{2, 2, math.MaxInt, at(0, 0, 0), api.ErrBig},
		{math.MinInt64, math.MinInt64, math.MaxInt, at(0, 0, 0), api.ErrBig},
		{0, 0, -1, at(0, 0, 0), api.ErrArg},
		{0, 0, math.MinInt, at(0, 0, 0), api.ErrArg},
		{math.MaxInt64, 1, -1, at(0, 0, 0), api.ErrArg}, // ahead of ErrBig
	} {
		if a, e := root.Make(c.p, c.q, c.k); a != c.want || e != c.e {
			t.Errorf("Make(%d, %d, %d): %v, %d, not %v, %d", c.p, c.q, c.k, a, e, c.want, c.e)
		}
	}
}

func TestTwo(t *testing.T) {
	for _, c := range []struct {
		name string
		f    two
		a, b api.Root
		want api.Root
		e    api.Errno
	}{
		{"Mul", root.Mul, at(1, 1, 1), at(-1, 1, 1), at(1, 0, 2), api.OK},
		{"Add", root.Add, at(1, 0, 1), at(1, 0, 1), at(1, 0, 0), api.OK},
		{"Mul", root.Mul, at(0, 1, 0), at(0, 1, 0), at(2, 0, 0), api.OK},
		{"Mul", root.Mul, at(2, 3, 0), at(5, 7, 0), at(52, 29, 0), api.OK},
		{"Mul with 0", root.Mul, at(0, 0, 0), at(-top, top, 60), at(0, 0, 0), api.OK},
		{"Add", root.Add, at(1, 2, 3), at(4, -5, 0), at(33, -38, 3), api.OK},
		{"Sub", root.Sub, at(1, 2, 3), at(4, -5, 0), at(-31, 42, 3), api.OK},
		{"Sub", root.Sub, at(1, 2, 0), at(4, -5, 0), at(-3, 7, 0), api.OK},
		{"Sub of itself", root.Sub, at(-top, top, 60), at(-top, top, 60), at(0, 0, 0), api.OK},
		{"Add, at the bound", root.Add, at(top-1, 1-top, 0), at(1, -1, 0), at(top, -top, 0), api.OK},
		{"Add, past it in P", root.Add, at(top, 0, 0), at(1, 0, 0), at(0, 0, 0), api.ErrBig},
		{"Add, past it in Q", root.Add, at(0, -top, 0), at(0, -1, 0), at(0, 0, 0), api.ErrBig},
		{"Sub, past it in P", root.Sub, at(-top, 0, 0), at(1, 0, 0), at(0, 0, 0), api.ErrBig},
		{"Sub, past it in Q", root.Sub, at(0, top, 0), at(0, -1, 0), at(0, 0, 0), api.ErrBig},
		{"Add, past it and back", root.Add, at(top, top, 1), at(top, top, 1), at(top, top, 0), api.OK},
		{"Add, past it in P and kept there by Q", root.Add, at(top, 1, 1), at(top, 0, 1), at(0, 0, 0), api.ErrBig},
		{"Sub, past it and back", root.Sub, at(-top, top, 60), at(top, -top, 60), at(-top, top, 59), api.OK},
		{"Sub, far past it", root.Sub, at(top, 0, 0), at(top, 1, 60), at(0, 0, 0), api.ErrBig},
		{"Add of a tiny one", root.Add, at(top, 0, 0), at(1, 0, 60), at(0, 0, 0), api.ErrBig},
		{"Add, one past it by a tiny one", root.Add, at(1, 0, 7), at(1, 0, 60), at(0, 0, 0), api.ErrBig},
		{"Add of a tiny one that fits", root.Add, at(1, 0, 8), at(1, 0, 60), at(1<<52+1, 0, 60), api.OK},
		{"Mul below", root.Mul, at(1, 0, 60), at(1, 0, 1), at(0, 0, 0), api.ErrBig},
		{"Mul far below", root.Mul, at(1, 0, 60), at(1, 0, 60), at(0, 0, 0), api.ErrBig},
		{"Mul below and back", root.Mul, at(0, 1, 60), at(0, 1, 1), at(1, 0, 60), api.OK},
		{"Mul far below and back", root.Mul, at(2, 3, 60), at(1<<52, 0, 0), at(2, 3, 8), api.OK},
		{"Mul far below and back", root.Mul, at(0, -1<<52, 0), at(0, 1, 60), at(-1, 0, 7), api.OK},
		{"Mul of a great and a small one", root.Mul, at(1<<52, 0, 0), at(3, 0, 52), at(3, 0, 0), api.OK},
		{"Mul of two great ones", root.Mul, at(1<<52, 0, 0), at(1<<52, 0, 0), at(0, 0, 0), api.ErrBig},
		{"Mul of the greatest ones", root.Mul, at(top, top, 60), at(top, top, 60), at(0, 0, 0), api.ErrBig},
		{"Mul of the least and the greatest", root.Mul, at(-top, -top, 0), at(top, top, 0), at(0, 0, 0), api.ErrBig},
		{"Mul, nought in 64 bits", root.Mul, at(1<<32, 0, 0), at(1<<32, 0, 0), at(0, 0, 0), api.ErrBig},
		{"Mul, past it on the way", root.Mul, at(top, top, 0), at(-1, 1, 0), at(top, 0, 0), api.OK}, // -top + 2 top
		{"Mul, one past it on the way", root.Mul, at(6369051672525773, 4503599627370496, 0), at(1, -1, 0), at(-2638147582215219, -1865452045155277, 0), api.OK},
	} {
		if a, e := c.f(c.a, c.b); a != c.want || e != c.e {
			t.Errorf("%s(%v, %v): %v, %d, not %v, %d", c.name, c.a, c.b, a, e, c.want, c.e)
		}
	}
}

func TestSign(t *testing.T) {
	for _, c := range []struct {
		a api.Root
		s int
	}{
		{at(3, -2, 0), 1}, {at(-3, 2, 0), -1},
		{at(7, -5, 0), -1}, {at(-7, 5, 0), 1},
		{at(0, 1, 0), 1}, {at(0, -1, 0), -1},
		{at(1, 0, 60), 1}, {at(-1, 0, 60), -1},
		{at(0, 0, 0), 0},
		{at(1, 1, 1), 1}, {at(-1, -1, 1), -1},
		{at(top, top, 60), 1}, {at(-top, -top, 60), -1},
		{at(top, -top, 60), -1}, {at(-top, top, 60), 1},
		{at(-1, 1, 9), 1}, {at(1, -1, 9), -1},
		{at(2, -1, 9), 1}, {at(-2, 1, 9), -1},
		{at(6369051672525773, -4503599627370496, 0), 1},
		{at(6369051672525773, -4503599627370497, 0), -1},
		{at(6369051672525772, -4503599627370496, 0), -1},
		// These squares are the same in 64 bits, up to a few.
		{at(1<<32, -1, 0), 1}, {at(1, -1<<32, 0), -1}, {at(1<<40, -1<<40, 0), -1},
	} {
		if s, e := root.Sign(c.a); s != c.s || e != api.OK {
			t.Errorf("Sign(%v): %d, %d, not %d", c.a, s, e, c.s)
		}
	}
}

func TestCompare(t *testing.T) {
	for _, c := range []struct {
		a, b api.Root
		s    int
	}{
		{at(1, 0, 0), at(0, 1, 0), -1},
		{at(3, 0, 1), at(0, 1, 0), 1},
		{at(0, 1, 1), at(1, 0, 1), 1},
		{at(0, 0, 0), at(0, 0, 0), 0},
		{at(5, -1, 7), at(5, -1, 7), 0},
		{at(5, -1, 7), at(5, -1, 8), 1},
		{at(top, 0, 0), at(top, 1, 60), 1},
		{at(top, top, 0), at(-top, -top, 0), 1},
		{at(top, -top, 0), at(-top, top, 0), -1},
		{at(top, top, 0), at(top, top, 60), 1},
		{at(-top, -top, 0), at(-top, -top, 60), -1},
		{at(0, 0, 0), at(1, 0, 60), -1},
		{at(0, 0, 0), at(-3, 2, 60), 1},
		{at(0, 0, 0), at(-7, 5, 60), -1},
	} {
		if s, e := root.Compare(c.a, c.b); s != c.s || e != api.OK {
			t.Errorf("Compare(%v, %v): %d, %d, not %d", c.a, c.b, s, e, c.s)
		}
		if s, e := root.Compare(c.b, c.a); s != -c.s || e != api.OK {
			t.Errorf("Compare(%v, %v): %d, %d, not %d", c.b, c.a, s, e, -c.s)
		}
	}
}

func TestFloat(t *testing.T) {
	for _, c := range []struct {
		a api.Root
		z float64
	}{
		{at(0, 1, 0), 1.4142135623730951},
		{at(0, 1, 1), 1.4142135623730951 / 2},
		{at(0, 0, 0), 0},
		{at(-3, 0, 0), -3},
		{at(1, 0, 60), 0x1p-60},
		{at(-top, 0, 60), -top * 0x1p-60},
		{at(1, 1, 0), 2.414213562373095},
		{at(1, -1, 0), -0.41421356237309515},
		// The value is above 0, but the product is rounded to -P.
		{at(6369051672525773, -4503599627370496, 0), 0},
		{at(-6369051672525773, 4503599627370496, 60), 0},
	} {
		if z, e := root.Float(c.a); math.Float64bits(z) != math.Float64bits(c.z) || e != api.OK {
			t.Errorf("Float(%v): %v, %d, not %v", c.a, z, e, c.z)
		}
	}
}
