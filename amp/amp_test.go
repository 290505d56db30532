package amp_test

import (
	"math"
	"testing"

	"cubit/amp"
	"cubit/api"
)

const (
	top   = api.MaxPart
	power = api.MaxPower
)

// The calls' shapes, by which tests go over several of them.
type (
	one = func(a api.Amp) (api.Amp, api.Errno)
	two = func(a, b api.Amp) (api.Amp, api.Errno)
)

// The shapes of the functions, as the chapter gives them.
var (
	_ func(api.Amp) api.Errno                      = amp.Check
	_ func(r api.Ring, k int) (api.Amp, api.Errno) = amp.Make
	_ two                                          = amp.Add
	_ two                                          = amp.Mul
	_ one                                          = amp.Conj
	_ func(a api.Amp, k int) (api.Amp, api.Errno)  = amp.Turn
	_ func(a api.Amp) (api.Root, api.Errno)        = amp.Weight
	_ func(a api.Amp) (complex128, api.Errno)      = amp.Float
	_ func(a api.Amp) (string, api.Errno)          = amp.Text
	_ func(s string) (api.Amp, api.Errno)          = amp.Parse
)

func element(a, b complex128) api.Ring { return api.Ring{A: a, B: b} }

// at is A + B w over the square root of 2 to the power k, as it stands.
func at(a, b complex128, k int) api.Amp { return api.Amp{R: element(a, b), K: k} }

// same asks for the same bits: == would take -0 for 0.
func same(a, b api.Amp) bool {
	return sameNumber(a.R.A, b.R.A) && sameNumber(a.R.B, b.R.B) && a.K == b.K
}

func sameNumber(x, y complex128) bool {
	return math.Float64bits(real(x)) == math.Float64bits(real(y)) && math.Float64bits(imag(x)) == math.Float64bits(imag(y))
}

func TestMake(t *testing.T) {
	for _, c := range []struct {
		r    api.Ring
		k    int
		want api.Amp
		e    api.Errno
	}{
		{element(2, 0), 2, at(1, 0, 0), api.OK},
		{element(1, 0), 1, at(1, 0, 1), api.OK},
		{element(0, 0), 7, at(0, 0, 0), api.OK},
		{element(1+1i, 0), 1, at(0, 1, 0), api.OK},
		{element(1, 0), 121, at(0, 0, 0), api.ErrArg},
		{element(1, 0), 61, at(0, 0, 0), api.ErrBig},

		{element(0, 0), 0, at(0, 0, 0), api.OK},
		{element(2, 0), 0, at(2, 0, 0), api.OK}, // with K 0 it may be halved
		{element(2, 0), 1, at(0, 1-1i, 0), api.OK},
		{element(2, 0), 3, at(1, 0, 1), api.OK},
		{element(1, 0), 60, at(1, 0, 60), api.OK},
		{element(1+1i, 0), 61, at(0, 1, 60), api.OK},
		{element(1+1i, 0), 62, at(0, 0, 0), api.ErrBig},
		{element(1, 1), 61, at(0, 0, 0), api.ErrBig},
		{element(1+1i, 1), 61, at(0, 0, 0), api.ErrBig}, // B alone can't be halved
		{element(1, 1+1i), 61, at(0, 0, 0), api.ErrBig}, // A alone can't be halved
		{element(-2, 2i), 62, at(-1, 1i, 60), api.OK},
		{element(1, 0), 120, at(0, 0, 0), api.ErrBig},
		{element(0x1p30, 0), 120, at(1, 0, 60), api.OK},
		{element(0, 0x1p30), 119, at(0, 1, 59), api.OK},
		{element(0x1p29, 0), 120, at(0, 0, 0), api.ErrBig},
		{element(0x1p29+0x1p29i, 0), 120, at(0, 0, 0), api.ErrBig},
		{element(0x1p29+0x1p29i, 0), 119, at(0, 1, 60), api.OK},
		{element(0x1p52, 0), 120, at(1, 0, 16), api.OK},
		{element(0x1p52, 0x1p52i), 104, at(1, 1i, 0), api.OK},
		{element(0x1p52, 0x1p52i), 103, at(-1+1i, 1-1i, 0), api.OK},
		{element(complex(top, top), complex(-top, top)), 1, at(complex(-top, 0), complex(top, 0), 0), api.OK},
		{element(top, complex(0, -top)), 60, at(top, complex(0, -top), 60), api.OK},
		{element(top, complex(0, -top)), 61, at(0, 0, 0), api.ErrBig},
		{element(0, 0), 60, at(0, 0, 0), api.OK},
		{element(0, 0), 61, at(0, 0, 0), api.OK},
		{element(0, 0), 120, at(0, 0, 0), api.OK},

		{element(0, 0), 121, at(0, 0, 0), api.ErrArg},
		{element(0x1p52, 0), 121, at(0, 0, 0), api.ErrArg},
		{element(1, 0), math.MaxInt, at(0, 0, 0), api.ErrArg},
		{element(1, 0), -1, at(0, 0, 0), api.ErrArg},
		{element(0, 0), -1, at(0, 0, 0), api.ErrArg},
		{element(0, 0), math.MinInt, at(0, 0, 0), api.ErrArg},
	} {
		if a, e := amp.Make(c.r, c.k); !same(a, c.want) || e != c.e {
			t.Errorf("Make(%v, %d): %v, %d, not %v, %d", c.r, c.k, a, e, c.want, c.e)
		}
	}
}

func TestTwo(t *testing.T) {
	for _, c := range []struct {
		name string
		f    two
		a, b api.Amp
		want api.Amp
		e    api.Errno
	}{
		{"Add", amp.Add, at(1, 0, 1), at(1, 0, 1), at(0, 1-1i, 0), api.OK},
		{"Add of two halves", amp.Add, at(1, 0, 2), at(1, 0, 2), at(1, 0, 0), api.OK},
		{"Add of unlike K", amp.Add, at(1, 0, 0), at(1, 0, 1), at(1, 1-1i, 1), api.OK},
		{"Add of unlike K", amp.Add, at(1, 0, 3), at(1i, 0, 1), at(1+2i, 0, 3), api.OK},
		{"Add, to nought", amp.Add, at(1, -1, 5), at(-1, 1, 5), at(0, 0, 0), api.OK},
		{"Add of noughts", amp.Add, at(0, 0, 0), at(0, 0, 0), at(0, 0, 0), api.OK},
		{"Add of nought", amp.Add, at(0, 0, 0), at(top, 0, 60), at(top, 0, 60), api.OK},
		{"Add, K as unlike as can be", amp.Add, at(1, 0, 0), at(1, 0, 60), at(0x1p30+1, 0, 60), api.OK},
		{"Add, K as unlike as can be", amp.Add, at(0, 1i, 60), at(0, 1, 0), at(0, 0x1p30+1i, 60), api.OK},
		{"Add, sixty doublings up to the bound", amp.Add, at(0x1p23-1, 0, 0), at(0x1p30-1, 0, 60), at(top, 0, 60), api.OK},
		{"Add, sixty doublings past it", amp.Add, at(0x1p23, 0, 0), at(1, 0, 60), at(0, 0, 0), api.ErrBig},
		{"Add, an odd number of doublings", amp.Add, at(0x1p23-1+1i, 0, 0), at(1, 0, 59), at(1, 0x1p52-(0x1p52-0x1p30)*1i, 59), api.OK},
		{"Add, the last doubling within the bound", amp.Add, at(complex(0x1p23-1, 0x1p23-1), 0, 0), at(1, 0, 59), at(1, 0x1p53-0x1p30, 59), api.OK},
		{"Add, the last doubling past it", amp.Add, at(complex(0x1p23, 0x1p23), 0, 0), at(1, 0, 59), at(0, 0, 0), api.ErrBig},
		{"Add, the second one's doubling past it", amp.Add, at(1, 0, 2), at(0x1p52, 0, 0), at(0, 0, 0), api.ErrBig},
		{"Add, a doubling past it though the sum fits", amp.Add, at(0x1p52, 0, 0), at(-1, 0, 2), at(0, 0, 0), api.ErrBig},
		{"Add, a doubling at the bound", amp.Add, at(top, 0, 0), at(1, 0, 1), at(1, complex(top, -top), 1), api.OK},
		{"Add, a doubling one past it", amp.Add, at(complex(top, 1), 0, 0), at(1, 0, 1), at(0, 0, 0), api.ErrBig},
		{"Add, at the bound", amp.Add, at(top-1, complex(0, 1-top), 0), at(1, -1i, 0), at(top, complex(0, -top), 0), api.OK},
		{"Add, past it in A", amp.Add, at(top, 0, 0), at(1, 0, 0), at(0, 0, 0), api.ErrBig},
		{"Add, past it in B", amp.Add, at(0, complex(0, -top), 0), at(0, -1i, 0), at(0, 0, 0), api.ErrBig},
		{"Add, past it though half of it fits", amp.Add, at(top, 0, 1), at(top, 0, 1), at(0, 0, 0), api.ErrBig},
		{"Add, past it though half of it fits", amp.Add, at(0, top, 60), at(0, top, 60), at(0, 0, 0), api.ErrBig},
		{"Add, halved as often as can be", amp.Add, at(0x1p30-1, 0, 60), at(1, 0, 60), at(1, 0, 0), api.OK},

		{"Mul", amp.Mul, at(0, 1, 0), at(0, 1, 0), at(1i, 0, 0), api.OK},
		{"Mul", amp.Mul, at(1, 0, 1), at(1, 0, 1), at(1, 0, 2), api.OK},
		{"Mul, halved once", amp.Mul, at(1, 1, 1), at(1, 1, 0), at(1+1i, 1, 0), api.OK},
		{"Mul with the square root of 2", amp.Mul, at(0, 1-1i, 0), at(3, 2, 5), at(3, 2, 4), api.OK},
		{"Mul with nought", amp.Mul, at(0, 0, 0), at(top, -top, 60), at(0, 0, 0), api.OK},
		{"Mul with a great one", amp.Mul, at(0x1p20, 0, 0), at(1, 0, 60), at(1, 0, 20), api.OK},
		{"Mul with a great one, halved to K 0", amp.Mul, at(0x1p52, 0, 0), at(1, 0, 60), at(0x1p22, 0, 0), api.OK},
		{"Mul, K at the bound", amp.Mul, at(1, 0, 30), at(1i, 0, 30), at(1i, 0, 60), api.OK},
		{"Mul, K past it", amp.Mul, at(1, 0, 31), at(1i, 0, 30), at(0, 0, 0), api.ErrBig},
		{"Mul, K past it", amp.Mul, at(1, 1, 31), at(1i, 0, 30), at(0, 0, 0), api.ErrBig},
		{"Mul, K past it and back", amp.Mul, at(1, 1, 31), at(1, 1, 30), at(1+1i, 1, 60), api.OK},
		{"Mul, K past it and back", amp.Mul, at(1, 1, 60), at(1, 1, 1), at(1+1i, 1, 60), api.OK},
		{"Mul, K two past it", amp.Mul, at(1, 1, 60), at(1, 1, 2), at(0, 0, 0), api.ErrBig},
		{"Mul, K as far past it as can be", amp.Mul, at(1, 1, 60), at(1, 1, 60), at(0, 0, 0), api.ErrBig},
		{"Mul, at the bound", amp.Mul, at(top, complex(0, -top), 0), at(0, 1, 0), at(top, top, 0), api.OK},
		{"Mul, past it", amp.Mul, at(0x1p27, 0, 0), at(0x1p26, 0, 0), at(0, 0, 0), api.ErrBig},
		{"Mul, past it though half of it fits", amp.Mul, at(0x1p27, 0, 0), at(0x1p26, 1, 30), at(0, 0, 0), api.ErrBig},
		{"Mul, steps past it that end each other", amp.Mul, at(0x1p27, 0x1p27, 0), at(0x1p26, 0x1p26i, 0), at(0, 0, 0), api.ErrBig},
	} {
		if z, e := c.f(c.a, c.b); !same(z, c.want) || e != c.e {
			t.Errorf("%s(%v, %v): %v, %d, not %v, %d", c.name, c.a, c.b, z, e, c.want, c.e)
		}
		if z, e := c.f(c.b, c.a); !same(z, c.want) || e != c.e {
			t.Errorf("%s(%v, %v): %v, %d, not %v, %d", c.name, c.b, c.a, z, e, c.want, c.e)
		}
	}
}

func TestConj(t *testing.T) {
	for _, c := range []struct{ a, want api.Amp }{
		{at(0, 1, 0), at(0, -1i, 0)},
		{at(1, 0, 1), at(1, 0, 1)},
		{at(0, 0, 0), at(0, 0, 0)},
		{at(2-3i, 5+7i, 60), at(2+3i, -7-5i, 60)},
		{at(complex(top, -top), complex(-top, 0), 9), at(complex(top, top), complex(0, top), 9)},
	} {
		if z, e := amp.Conj(c.a); !same(z, c.want) || e != api.OK {
			t.Errorf("Conj(%v): %v, %d, not %v", c.a, z, e, c.want)
		}
	}
}

// TestTurn: the eight turns of an amplitude, by k itself and by all kinds of numbers that are k modulo 8.
func TestTurn(t *testing.T) {
	for _, l := range [][8]api.Amp{
		{at(1, 0, 1), at(0, 1, 1), at(1i, 0, 1), at(0, 1i, 1), at(-1, 0, 1), at(0, -1, 1), at(-1i, 0, 1), at(0, -1i, 1)},
		{},
		{
			at(2-3i, 5+7i, 60), at(-7+5i, 2-3i, 60), at(3+2i, -7+5i, 60), at(-5-7i, 3+2i, 60),
			at(-2+3i, -5-7i, 60), at(7-5i, -2+3i, 60), at(-3-2i, 7-5i, 60), at(5+7i, -3-2i, 60),
		},
		{
			at(top, 0, 0), at(0, top, 0), at(complex(0, top), 0, 0), at(0, complex(0, top), 0),
			at(-top, 0, 0), at(0, -top, 0), at(complex(0, -top), 0, 0), at(0, complex(0, -top), 0),
		},
	} {
		for k, want := range l {
			// The least int is 0 modulo 8, the greatest is 7.
			for _, j := range []int{k, k - 8, k + 8, k - 800, math.MinInt + k, math.MaxInt - 7 + k} {
				if z, e := amp.Turn(l[0], j); !same(z, want) || e != api.OK {
					t.Errorf("Turn(%v, %d): %v, %d, not %v", l[0], j, z, e, want)
				}
			}
		}
	}
}

func TestWeight(t *testing.T) {
	for _, c := range []struct {
		a    api.Amp
		want api.Root
		e    api.Errno
	}{
		{at(1, 0, 1), api.Root{P: 1, K: 1}, api.OK},
		{at(0, 1, 0), api.Root{P: 1}, api.OK},
		{at(1, 1, 0), api.Root{P: 2, Q: 1}, api.OK},
		{at(0, 0, 0), api.Root{}, api.OK},
		{at(1, 1, 2), api.Root{P: 2, Q: 1, K: 2}, api.OK},
		{at(1, -1, 60), api.Root{P: 2, Q: -1, K: 60}, api.OK},
		{at(0, 1-1i, 0), api.Root{P: 2}, api.OK},
		{at(2-3i, 5+7i, 59), api.Root{P: 87, Q: -40, K: 59}, api.OK},
		{at(94906265, 0, 60), api.Root{P: 94906265 * 94906265, K: 60}, api.OK},
		{at(94906266, 0, 0), api.Root{}, api.ErrBig},
		{at(94906267, 0, 60), api.Root{}, api.ErrBig},
		// The four squares come to MaxPart itself, and to one more than that.
		{at(8615701+42593933i, 84371726-371045i, 60), api.Root{P: top, Q: 8615701*84371726 - 42593933*371045 + 8615701*371045 + 42593933*84371726, K: 60}, api.OK},
		{at(0x1p26, 0x1p26, 0), api.Root{}, api.ErrBig},
		{at(complex(top, top), complex(top, -top), 0), api.Root{}, api.ErrBig},
	} {
		if w, e := amp.Weight(c.a); w != c.want || e != c.e {
			t.Errorf("Weight(%v): %v, %d, not %v, %d", c.a, w, e, c.want, c.e)
		}
	}
}
