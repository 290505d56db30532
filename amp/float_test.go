package amp_test

import (
	"math"
	exact "math/big"
	"testing"

	"cubit/amp"
	"cubit/api"
)

// h is 1 over the square root of 2, as the chapter writes it.
const h = 0.7071067811865476

func TestFloat(t *testing.T) {
	for _, c := range []struct {
		a api.Amp
		z complex128
	}{
		{at(1, 0, 1), h},
		{at(0, 1, 0), complex(h, h)},
		{at(1, 0, 2), 0.5},

		{at(0, 0, 0), 0},
		{at(-3+4i, 0, 0), -3 + 4i},
		{at(-3+4i, 0, 2), -1.5 + 2i},
		{at(-1i, 0, 3), complex(0, -h/2)},
		{at(1, 0, 59), h * 0x1p-29},
		{at(-1, 0, 60), -0x1p-30},
		{at(complex(-top, 2), 0, 60), complex(-top*0x1p-30, 0x1p-29)},
		{at(0, 1, 1), complex(math.Nextafter(0.5, 1), math.Nextafter(0.5, 1))}, // h times h, rounded
		{at(0, 1, 2), complex(h/2, h/2)},
		{at(0, 1-1i, 0), 1.4142135623730951},
		// Noughts, of which none has a sign.
		{at(0, 1+1i, 0), 1.4142135623730951i},
		{at(0, -1-1i, 0), -1.4142135623730951i},
		{at(0, -1+1i, 0), -1.4142135623730951},
		{at(-1, 0, 0), -1},
		{at(-1i, 0, 0), -1i},
		{at(-1, 0, 1), -h},
		{at(-1i, 0, 59), complex(0, -h*0x1p-29)},
		{at(-2, 1-3i, 0), complex(0.8284271247461903, -1.4142135623730954)}, // 3 times h is rounded ahead of the difference
		// The parts of these end each other but for one half: h times 2^52 is 3184525836262886.5.
		{at(3184525836262886, complex(-0x1p51, 0x1p51), 0), -0.5},
		{at(3184525836262887i, complex(-0x1p51, -0x1p51), 60), 0x1p-31i},
	} {
		if z, e := amp.Float(c.a); !sameNumber(z, c.z) || e != api.OK {
			t.Errorf("Float(%v): %v, %d, not %v", c.a, z, e, c.z)
		}
	}
}

// A step is rounded to 53 bits. No number here is so small or so great that a float64 would round otherwise.
func step() *exact.Float { return new(exact.Float).SetPrec(53).SetMode(exact.ToNearestEven) }

func byHalf(x *exact.Float) *exact.Float { return step().Mul(x, exact.NewFloat(h)) }

// floats takes the chapter's steps one by one.
func floats(a api.Amp) complex128 {
	c, d := byHalf(exact.NewFloat(real(a.R.B))), byHalf(exact.NewFloat(imag(a.R.B)))
	parts := []*exact.Float{
		step().Add(exact.NewFloat(real(a.R.A)), step().Sub(c, d)),
		step().Add(exact.NewFloat(imag(a.R.A)), step().Add(c, d)),
	}
	var z [2]float64
	for i, x := range parts {
		if a.K%2 == 1 {
			x = byHalf(x)
		}
		z[i], _ = step().SetMantExp(x, -(a.K / 2)).Float64()
		if z[i] == 0 {
			z[i] = 0 // without a sign
		}
	}
	return complex(z[0], z[1])
}

func holdFloat(t *testing.T, a api.Amp) {
	t.Helper()
	if z, e := amp.Float(a); !sameNumber(z, floats(a)) || e != api.OK {
		t.Errorf("Float(%v): %v, %d, not %v", a, z, e, floats(a))
	}
}

func TestFloatAgainstSteps(t *testing.T) {
	for _, a := range edges() {
		holdFloat(t, a)
	}
	s := source(3)
	for range 3000 {
		for _, most := range []int{1, 4, 26, 53} {
			holdFloat(t, s.amp(most, power))
		}
	}
}

// TestFloatIsNotFused: amplitudes of which one rounding of a product and a sum together tells another number than two.
func TestFloatIsNotFused(t *testing.T) {
	s, unlike := source(4), 0
	for range 3000 {
		a := s.amp(53, 0)
		c, d := real(a.R.B), imag(a.R.B)
		fused := complex(real(a.R.A)+math.FMA(c, h, float64(-d*h)), imag(a.R.A)+math.FMA(c, h, float64(d*h)))
		if !sameNumber(fused, floats(a)) {
			holdFloat(t, a)
			unlike++
		}
	}
	if unlike < 100 {
		t.Errorf("only %d amplitudes tell it", unlike)
	}
}
