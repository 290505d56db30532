package ring_test

import (
	"math"
	"testing"

	"cubit/api"
	"cubit/ring"
)

// wrongParts: none of these is a part of a Gaussian integer.
func wrongParts() []float64 {
	return []float64{
		math.Copysign(0, -1), 0.5, -1.5, 0x1p51 + 0.5, math.SmallestNonzeroFloat64,
		0x1p53, -0x1p53, 0x1p53 + 2, 0x1p63, -0x1p63, math.MaxFloat64, math.Inf(1), math.Inf(-1), math.NaN(), math.Copysign(math.NaN(), -1),
	}
}

// wrongElements: a wrong part in each of the four places, beside noughts, ordinary parts and such as are refused by size.
func wrongElements() []api.Ring {
	var l []api.Ring
	for _, p := range wrongParts() {
		for _, q := range []float64{0, -3, top} {
			x := complex(q, q)
			l = append(l, at(complex(p, q), x), at(complex(q, p), x), at(x, complex(p, q)), at(x, complex(q, p)))
		}
		l = append(l, at(complex(p, p), complex(p, p)))
	}
	return l
}

func TestCheck(t *testing.T) {
	for _, r := range edges() {
		if e := ring.Check(r); e != api.OK {
			t.Errorf("Check(%v): %d", r, e)
		}
	}
	for _, r := range wrongElements() {
		if e := ring.Check(r); e != api.ErrWhole {
			t.Errorf("Check(%v): %d", r, e)
		}
	}
}

// TestTwoRefuseWrong: in either place, also beside an element with which a step would be refused by size.
func TestTwoRefuseWrong(t *testing.T) {
	calls := map[string]two{"Add": ring.Add, "Sub": ring.Sub, "Mul": ring.Mul}
	for _, r := range wrongElements() {
		for _, s := range []api.Ring{at(0, 0), at(1, 0), at(2-3i, 5+7i), at(complex(top, top), complex(top, top)), at(complex(-top, -top), complex(-top, -top)), r} {
			for name, f := range calls {
				if z, e := f(r, s); !same(z, at(0, 0)) || e != api.ErrWhole {
					t.Errorf("%s(%v, %v): %v, %d", name, r, s, z, e)
				}
				if z, e := f(s, r); !same(z, at(0, 0)) || e != api.ErrWhole {
					t.Errorf("%s(%v, %v): %v, %d", name, s, r, z, e)
				}
			}
			if k, ok := ring.Order(r, s); k != 0 || ok {
				t.Errorf("Order(%v, %v): %d, %v", r, s, k, ok)
			}
			if k, ok := ring.Order(s, r); k != 0 || ok {
				t.Errorf("Order(%v, %v): %d, %v", s, r, k, ok)
			}
		}
	}
}

func TestOneRefusesWrong(t *testing.T) {
	calls := map[string]one{"Conj": ring.Conj, "Star": ring.Star, "Double": ring.Double}
	for _, r := range wrongElements() {
		for name, f := range calls {
			if z, e := f(r); !same(z, at(0, 0)) || e != api.ErrWhole {
				t.Errorf("%s(%v): %v, %d", name, r, z, e)
			}
		}
		for _, k := range []int{0, 1, 2, 7, -1, math.MinInt, math.MaxInt} {
			if z, e := ring.Turn(r, k); !same(z, at(0, 0)) || e != api.ErrWhole {
				t.Errorf("Turn(%v, %d): %v, %d", r, k, z, e)
			}
		}
		if z, ok, e := ring.Halve(r); !same(z, at(0, 0)) || ok || e != api.ErrWhole {
			t.Errorf("Halve(%v): %v, %v, %d", r, z, ok, e)
		}
		if w, e := ring.Weight(r); w != (api.Root{}) || e != api.ErrWhole {
			t.Errorf("Weight(%v): %v, %d", r, w, e)
		}
	}
}

// TestNoughtsAreOne: a nought with a sign is the same as 0 by ==, and yet no turn of it.
func TestNoughtsAreOne(t *testing.T) {
	signed := at(complex(math.Copysign(0, -1), 0), 0)
	if k, ok := ring.Order(signed, at(0, 0)); signed != at(0, 0) || k != 0 || ok {
		t.Errorf("Order(%v, 0): %d, %v", signed, k, ok)
	}
}
