package amp_test

import (
	"math"
	"testing"

	"cubit/amp"
	"cubit/api"
)

// wrongParts: none of these is a part of a Gaussian integer.
func wrongParts() []float64 {
	return []float64{
		math.Copysign(0, -1), 0.5, -1.5, math.SmallestNonzeroFloat64,
		0x1p53, -0x1p53, 0x1p63, math.MaxFloat64, math.Inf(1), math.Inf(-1), math.NaN(),
	}
}

// wrongElements: a wrong part in each of the four places.
func wrongElements() []api.Ring {
	var l []api.Ring
	for _, p := range wrongParts() {
		for _, q := range []float64{0, -3, top} {
			x := complex(q, q)
			l = append(l, element(complex(p, q), x), element(complex(q, p), x), element(x, complex(p, q)), element(x, complex(q, p)))
		}
	}
	return l
}

// wrongPowers: none of these is the K of an amplitude.
func wrongPowers() []int {
	return []int{-1, -2, -60, math.MinInt, power + 1, power + 2, 64, 2 * power, math.MaxInt}
}

// wrong is what Check refuses, and with which error.
type wrong struct {
	a api.Amp
	e api.Errno
}

func wrongAmps() []wrong {
	var l []wrong
	for _, r := range wrongElements() {
		for _, k := range []int{0, 1, power, -1, power + 1, math.MinInt, math.MaxInt} {
			l = append(l, wrong{api.Amp{R: r, K: k}, api.ErrWhole}) // R is looked at ahead of K
		}
	}
	for _, r := range []api.Ring{element(0, 0), element(1, 0), element(0, -1i), element(2, 2), element(top, complex(-top, 1))} {
		for _, k := range wrongPowers() {
			l = append(l, wrong{api.Amp{R: r, K: k}, api.ErrArg})
		}
	}
	// What can be halved.
	for _, r := range []api.Ring{
		element(0, 0), element(2, 0), element(0, 2i), element(1+1i, 0), element(0, 1-1i), element(-1+1i, 3+5i), element(-2, 1-3i), element(0x1p52, 0),
		element(complex(top, -top), complex(-top, -top)), element(complex(top, 1), complex(1-top, 0)),
	} {
		for _, k := range []int{1, 2, 59, power} {
			l = append(l, wrong{api.Amp{R: r, K: k}, api.ErrArg})
		}
	}
	return l
}

func TestCheck(t *testing.T) {
	for _, a := range edges() {
		if e := amp.Check(a); e != api.OK {
			t.Errorf("Check(%v): %d", a, e)
		}
	}
	for _, a := range []api.Amp{
		at(0, 0, 0), at(2, 0, 0), at(1+1i, 0, 0), at(1, 0, 0), at(1, 0, 1), at(0, 1i, 1), at(1, 0, 60), at(1+1i, 1, 60), at(1, 1+1i, 60), at(2, 1, 1),
		at(complex(top, top), complex(top, top), 0), at(complex(-top, top), complex(top, 2), 60),
	} {
		if e := amp.Check(a); e != api.OK {
			t.Errorf("Check(%v): %d", a, e)
		}
	}
	for _, w := range wrongAmps() {
		if e := amp.Check(w.a); e != w.e {
			t.Errorf("Check(%v): %d, not %d", w.a, e, w.e)
		}
	}
}

// TestMakeRefusesWrong: a wrong element is told ahead of a wrong k.
func TestMakeRefusesWrong(t *testing.T) {
	for _, r := range wrongElements() {
		for _, k := range []int{0, 1, power, power + 1, 2 * power, 2*power + 1, -1, math.MinInt, math.MaxInt} {
			if a, e := amp.Make(r, k); !same(a, api.Amp{}) || e != api.ErrWhole {
				t.Errorf("Make(%v, %d): %v, %d", r, k, a, e)
			}
		}
	}
}

func refuses(t *testing.T, name string, f two, a, b api.Amp, want api.Errno) {
	t.Helper()
	if z, e := f(a, b); !same(z, api.Amp{}) || e != want {
		t.Errorf("%s(%v, %v): %v, %d, not refused with %d", name, a, b, z, e, want)
	}
}

// TestTwoRefuseWrong: in either place, also beside an amplitude with which a step would be refused by size.
func TestTwoRefuseWrong(t *testing.T) {
	for name, f := range map[string]two{"Add": amp.Add, "Mul": amp.Mul} {
		for _, w := range wrongAmps() {
			for _, b := range []api.Amp{at(0, 0, 0), at(1, 0, 0), at(1, 1, 60), at(complex(top, top), complex(top, top), 0), at(complex(-top, 0), 0, 60)} {
				refuses(t, name, f, w.a, b, w.e)
				refuses(t, name, f, b, w.a, w.e)
			}
		}
	}
}

// TestFirstOfTwoWrong: it is the first one's error that is told.
func TestFirstOfTwoWrong(t *testing.T) {
	signed := math.Copysign(0, -1)
	whole := []api.Amp{at(0.5, 0, 0), at(0, complex(signed, 0), 1), at(complex(0, math.NaN()), 0, -1), at(0, complex(0, 0x1p53), power+1)}
	argument := []api.Amp{at(1, 0, -1), at(1, 0, power+1), at(2, 0, 1), at(0, 0, 1), at(top, 0, math.MinInt)}
	for name, f := range map[string]two{"Add": amp.Add, "Mul": amp.Mul} {
		for _, a := range whole {
			for _, b := range argument {
				refuses(t, name, f, a, b, api.ErrWhole)
				refuses(t, name, f, b, a, api.ErrArg)
			}
		}
	}
}

func TestOneRefusesWrong(t *testing.T) {
	for _, w := range wrongAmps() {
		a := w.a
		if z, e := amp.Conj(a); !same(z, api.Amp{}) || e != w.e {
			t.Errorf("Conj(%v): %v, %d", a, z, e)
		}
		for _, k := range []int{0, 1, 2, 7, -1, math.MinInt, math.MaxInt} {
			if z, e := amp.Turn(a, k); !same(z, api.Amp{}) || e != w.e {
				t.Errorf("Turn(%v, %d): %v, %d", a, k, z, e)
			}
		}
		if p, e := amp.Weight(a); p != (api.Root{}) || e != w.e {
			t.Errorf("Weight(%v): %v, %d", a, p, e)
		}
		if z, e := amp.Float(a); !sameNumber(z, 0) || e != w.e {
			t.Errorf("Float(%v): %v, %d", a, z, e)
		}
		if s, e := amp.Text(a); s != "" || e != w.e {
			t.Errorf("Text(%v): %q, %d", a, s, e)
		}
	}
}
