package ring_test

import (
	"math"
	"testing"

	"cubit/api"
	"cubit/ring"
)

const top = api.MaxPart

// The calls' shapes, by which tests go over several of them.
type (
	one = func(r api.Ring) (api.Ring, api.Errno)
	two = func(r, s api.Ring) (api.Ring, api.Errno)
)

// The shapes of the functions, as the chapter gives them.
var (
	_ func(api.Ring) api.Errno                   = ring.Check
	_ two                                        = ring.Add
	_ two                                        = ring.Sub
	_ two                                        = ring.Mul
	_ func(api.Ring, int) (api.Ring, api.Errno)  = ring.Turn
	_ one                                        = ring.Conj
	_ one                                        = ring.Star
	_ one                                        = ring.Double
	_ func(api.Ring) (api.Ring, bool, api.Errno) = ring.Halve
	_ func(api.Ring) (api.Root, api.Errno)       = ring.Weight
	_ func(r, s api.Ring) (int, bool)            = ring.Order
)

// at is A; B.
func at(a, b complex128) api.Ring { return api.Ring{A: a, B: b} }

// same asks for the same bits: == would take -0 for 0.
func same(r, s api.Ring) bool {
	for _, p := range [][2]float64{{real(r.A), real(s.A)}, {imag(r.A), imag(s.A)}, {real(r.B), real(s.B)}, {imag(r.B), imag(s.B)}} {
		if math.Float64bits(p[0]) != math.Float64bits(p[1]) {
			return false
		}
	}
	return true
}

func TestTwo(t *testing.T) {
	for _, c := range []struct {
		name string
		f    two
		r, s api.Ring
		want api.Ring
		e    api.Errno
	}{
		{"Mul", ring.Mul, at(0, 1), at(0, 1), at(1i, 0), api.OK},
		{"Add", ring.Add, at(9007199254740991, 0), at(1, 0), at(0, 0), api.ErrBig},
		{"Add", ring.Add, at(1-2i, 3), at(4, -5i), at(5-2i, 3-5i), api.OK},
		{"Add, at the bound", ring.Add, at(top-1, complex(0, 1-top)), at(1, -1i), at(top, complex(0, -top)), api.OK},
		{"Add, past it in A", ring.Add, at(complex(0, -top), 1), at(-1i, 1), at(0, 0), api.ErrBig},
		{"Add, past it in B", ring.Add, at(1, top), at(1, 1), at(0, 0), api.ErrBig},
		{"Add, past it in B", ring.Add, at(1, complex(0, top)), at(1, 1i), at(0, 0), api.ErrBig},
		{"Add, to a nought", ring.Add, at(-3, complex(top, -1)), at(3, complex(-top, 1)), at(0, 0), api.OK},
		{"Sub", ring.Sub, at(1-2i, 3), at(4, -5i), at(-3-2i, 3+5i), api.OK},
		{"Sub, at the bound", ring.Sub, at(1-top, complex(0, top-1)), at(1, -1i), at(-top, complex(0, top)), api.OK},
		{"Sub, past it in A", ring.Sub, at(-top, 1), at(1, 1), at(0, 0), api.ErrBig},
		{"Sub, past it in B", ring.Sub, at(1, complex(0, top)), at(1, -1i), at(0, 0), api.ErrBig},
		{"Sub, to a nought", ring.Sub, at(-3i, top), at(-3i, top), at(0, 0), api.OK},
		{"Mul", ring.Mul, at(1, 1), at(1, -1), at(1-1i, 0), api.OK},
		{"Mul", ring.Mul, at(1+2i, 3), at(2, 1i), at(-1+4i, 4+1i), api.OK},
		{"Mul with -1", ring.Mul, at(-1, 0), at(0, 1), at(0, -1), api.OK},
		{"Mul of noughts", ring.Mul, at(0, 0), at(-1-1i, -1-1i), at(0, 0), api.OK},
		{"Mul, at the bound", ring.Mul, at(top, complex(0, -top)), at(0, 1), at(top, top), api.OK},
		{"Mul, A * C alone", ring.Mul, at(0x1p27, 0), at(0x1p26, 0), at(0, 0), api.ErrBig},
		{"Mul, B * D alone", ring.Mul, at(0, 0x1p27), at(0, 0x1p26), at(0, 0), api.ErrBig},
		{"Mul, A * D alone", ring.Mul, at(0x1p27, 0), at(0, 0x1p26), at(0, 0), api.ErrBig},
		{"Mul, B * C alone", ring.Mul, at(0, 0x1p27), at(0x1p26, 0), at(0, 0), api.ErrBig},
		{"Mul, the sum at A alone", ring.Mul, at(0x1p26, 0x1p26), at(0x1p26, -0x1p26i), at(0, 0), api.ErrBig},
		{"Mul, the sum at B alone", ring.Mul, at(0x1p26, 0x1p26), at(0x1p26, 0x1p26), at(0, 0), api.ErrBig},
		{"Mul, a great A * C taken back by B * D", ring.Mul, at(0x1p27, 0x1p27), at(0x1p26, 0x1p26i), at(0, 0), api.ErrBig},
		{"Mul, a great A * D taken back by B * C", ring.Mul, at(0x1p27, 0x1p27), at(0x1p26, -0x1p26), at(0, 0), api.ErrBig},
		{"Mul, great steps inside A * C", ring.Mul, at(0x1p27+0x1p27i, 0), at(0x1p26+0x1p26i, 0), at(0, 0), api.ErrBig},
	} {
		if z, e := c.f(c.r, c.s); !same(z, c.want) || e != c.e {
			t.Errorf("%s(%v, %v): %v, %d, not %v, %d", c.name, c.r, c.s, z, e, c.want, c.e)
		}
	}
}

func TestOne(t *testing.T) {
	for _, c := range []struct {
		name    string
		f       one
		r, want api.Ring
		e       api.Errno
	}{
		{"Double", ring.Double, at(1, 0), at(0, 1-1i), api.OK},
		{"Double", ring.Double, at(0, 1), at(1+1i, 0), api.OK},
		{"Double", ring.Double, at(2-3i, 5+7i), at(-2+12i, -1-5i), api.OK},
		{"Double of a nought", ring.Double, at(0, 0), at(0, 0), api.OK},
		{"Double of parts that end each other", ring.Double, at(-3+3i, -3-3i), at(0-6i, 0+6i), api.OK},
		{"Double, at the bound", ring.Double, at(complex(0x1p52, 0x1p52-1), 0), at(0, complex(top, -1)), api.OK},
		{"Double, past it by A's sum", ring.Double, at(complex(top, 1), 0), at(0, 0), api.ErrBig},
		{"Double, past it by A's difference", ring.Double, at(complex(top, -1), 0), at(0, 0), api.ErrBig},
		{"Double, past it by B's sum", ring.Double, at(0, complex(-top, -1)), at(0, 0), api.ErrBig},
		{"Double, past it by B's difference", ring.Double, at(0, complex(top, -1)), at(0, 0), api.ErrBig},
		{"Double of a part at the bound", ring.Double, at(-top, complex(0, top)), at(complex(-top, top), complex(-top, top)), api.OK},
		{"Conj", ring.Conj, at(0, 1), at(0, -1i), api.OK},
		{"Conj", ring.Conj, at(2-3i, 5+7i), at(2+3i, -7-5i), api.OK},
		{"Conj of a nought", ring.Conj, at(0, 0), at(0, 0), api.OK},
		{"Conj, at the bound", ring.Conj, at(complex(top, top), complex(-top, top)), at(complex(top, -top), complex(-top, top)), api.OK},
		{"Star", ring.Star, at(1, 1), at(1, -1), api.OK},
		{"Star", ring.Star, at(2-3i, 5-7i), at(2-3i, -5+7i), api.OK},
		{"Star without B", ring.Star, at(-1i, 0), at(-1i, 0), api.OK},
		{"Star, at the bound", ring.Star, at(complex(top, -top), complex(-top, top)), at(complex(top, -top), complex(top, -top)), api.OK},
	} {
		if z, e := c.f(c.r); !same(z, c.want) || e != c.e {
			t.Errorf("%s(%v): %v, %d, not %v, %d", c.name, c.r, z, e, c.want, c.e)
		}
	}
}

// TestTurn: the eight turns of an element, by k itself and by all kinds of numbers that are k modulo 8.
func TestTurn(t *testing.T) {
	for _, l := range [][8]api.Ring{
		{at(1, 0), at(0, 1), at(1i, 0), at(0, 1i), at(-1, 0), at(0, -1), at(-1i, 0), at(0, -1i)},
		{at(0, 0), at(0, 0), at(0, 0), at(0, 0), at(0, 0), at(0, 0), at(0, 0), at(0, 0)},
		{
			at(2-3i, 5+7i), at(-7+5i, 2-3i), at(3+2i, -7+5i), at(-5-7i, 3+2i),
			at(-2+3i, -5-7i), at(7-5i, -2+3i), at(-3-2i, 7-5i), at(5+7i, -3-2i),
		},
		{
			at(complex(top, -top), top), at(complex(0, top), complex(top, -top)), at(complex(top, top), complex(0, top)), at(-top, complex(top, top)),
			at(complex(-top, top), -top), at(complex(0, -top), complex(-top, top)), at(complex(-top, -top), complex(0, -top)), at(top, complex(-top, -top)),
		},
	} {
		for k, want := range l {
			// The least int is 0 modulo 8, the greatest is 7.
			for _, j := range []int{k, k - 8, k + 8, k - 80, k + 800, k - 1<<40, k + 1<<40, math.MinInt + k, math.MaxInt - 7 + k} {
				if z, e := ring.Turn(l[0], j); !same(z, want) || e != api.OK {
					t.Errorf("Turn(%v, %d): %v, %d, not %v", l[0], j, z, e, want)
				}
			}
		}
	}
}

func TestHalve(t *testing.T) {
	for _, c := range []struct {
		r, want api.Ring
		ok      bool
	}{
		{at(2, 0), at(0, 1-1i), true},
		{at(1, 0), at(0, 0), false},
		{at(1+1i, 0), at(0, 1), true},
		{at(0, 0), at(0, 0), true},
		{at(1i, 0), at(0, 0), false},
		{at(0, 1), at(0, 0), false},
		{at(0, -1i), at(0, 0), false},
		{at(1, 1), at(0, 0), false},
		{at(1+1i, 2+1i), at(0, 0), false},
		{at(2+1i, 1+1i), at(0, 0), false},
		{at(-1, 0), at(0, 0), false},
		{at(-1+1i, 3-1i), at(2+1i, 1i), true},
		{at(-3-5i, -2+4i), at(-3+1i, -4-1i), true},
		{at(-2+12i, -1-5i), at(2-3i, 5+7i), true},
		{at(complex(top, top), complex(top, -top)), at(top, top), true},
		{at(complex(-top, -top), complex(-top, top)), at(-top, -top), true},
		{at(complex(top, -top), complex(top, top)), at(complex(0, top), complex(0, -top)), true},
		{at(complex(top, -1), complex(-1, top)), at(complex(-0x1p52, 0x1p52-1), complex(0x1p52-1, -0x1p52)), true},
		{at(top-1, 1-top), at(complex(1-0x1p52, 1-0x1p52), complex(0x1p52-1, 1-0x1p52)), true},
		{at(complex(top, top-1), 0), at(0, 0), false},
		{at(0, complex(1-top, -top)), at(0, 0), false},
	} {
		if h, ok, e := ring.Halve(c.r); !same(h, c.want) || ok != c.ok || e != api.OK {
			t.Errorf("Halve(%v): %v, %v, %d, not %v, %v", c.r, h, ok, e, c.want, c.ok)
		}
	}
}

func TestWeight(t *testing.T) {
	for _, c := range []struct {
		r    api.Ring
		want api.Root
		e    api.Errno
	}{
		{at(1, 1), api.Root{P: 2, Q: 1}, api.OK},
		{at(0, 0), api.Root{}, api.OK},
		{at(1, -1), api.Root{P: 2, Q: -1}, api.OK},
		{at(1, 1i), api.Root{P: 2, Q: -1}, api.OK},
		{at(1i, 1), api.Root{P: 2, Q: 1}, api.OK},
		{at(0, 3-4i), api.Root{P: 25}, api.OK},
		{at(2-3i, 5+7i), api.Root{P: 87, Q: -40}, api.OK},
		{at(94906265, 0), api.Root{P: 94906265 * 94906265}, api.OK},
		{at(94906266, 0), api.Root{}, api.ErrBig},
		{at(0, -94906266i), api.Root{}, api.ErrBig},
		// The four squares come to MaxPart itself, and to one more than that.
		{at(8615701+42593933i, 84371726-371045i), api.Root{P: top, Q: 8615701*84371726 - 42593933*371045 + 8615701*371045 + 42593933*84371726}, api.OK},
		{at(-371045+84371726i, 42593933+8615701i), api.Root{P: top, Q: -371045*42593933 + 84371726*8615701 + 371045*8615701 + 84371726*42593933}, api.OK},
		{at(0x1p26, 0x1p26), api.Root{}, api.ErrBig},
		{at(0x1p26+0x1p26i, 0), api.Root{}, api.ErrBig},
		{at(0, 0x1p26-0x1p26i), api.Root{}, api.ErrBig},
		{at(0x1p26, complex(0, 0x1p26-1)), api.Root{P: 1<<52 + (1<<26-1)*(1<<26-1), Q: -(1 << 26) * (1<<26 - 1)}, api.OK},
		// The squares of these are 0 in 64 bits.
		{at(0x1p32, 0), api.Root{}, api.ErrBig},
		{at(0, 0x1p40i), api.Root{}, api.ErrBig},
		{at(complex(top, top), complex(top, top)), api.Root{}, api.ErrBig},
		{at(complex(-top, top), 0), api.Root{}, api.ErrBig},
		{at(0, -top), api.Root{}, api.ErrBig},
	} {
		if w, e := ring.Weight(c.r); w != c.want || e != c.e {
			t.Errorf("Weight(%v): %v, %d, not %v, %d", c.r, w, e, c.want, c.e)
		}
	}
}

func TestOrder(t *testing.T) {
	for _, c := range []struct {
		r, s api.Ring
		k    int
		ok   bool
	}{
		{at(0, 1), at(1, 0), 1, true},
		{at(2, 0), at(1, 0), 0, false},
		{at(1, 0), at(2, 0), 0, false},
		{at(1, 0), at(0, 1), 7, true},
		{at(0, 0), at(0, 0), 0, true},
		{at(0, 0), at(1, 0), 0, false},
		{at(0, 1i), at(0, 0), 0, false},
		{at(0, 1-1i), at(1, 0), 0, false},    // the square root of 2 is no turn of 1
		{at(2+1i, 0), at(2-1i, 0), 0, false}, // nor is a conjugate
		{at(1, 1), at(1, -1), 0, false},
		{at(1, 2), at(1, 3), 0, false},
		{at(2, 1), at(3, 1), 0, false},
		{at(complex(-top, top), -top), at(complex(top, -top), top), 4, true},
		{at(complex(top, top-1), -top), at(complex(top, top), -top), 0, false},
	} {
		if k, ok := ring.Order(c.r, c.s); k != c.k || ok != c.ok {
			t.Errorf("Order(%v, %v): %d, %v, not %d, %v", c.r, c.s, k, ok, c.k, c.ok)
		}
	}
	for _, s := range []api.Ring{at(1, 0), at(0, -1), at(1, 1), at(2-3i, 5+7i), at(top, complex(-top, 1))} {
		for k := range 8 {
			r, e := ring.Turn(s, k)
			if j, ok := ring.Order(r, s); j != k || !ok || e != api.OK {
				t.Errorf("Order(%v, %v): %d, %v, not %d", r, s, j, ok, k)
			}
		}
	}
}
