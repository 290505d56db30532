package gauss_test

import (
	"math"
	"testing"

	"cubit/api"
	"cubit/gauss"
)

const top = api.MaxPart

var (
	minus = math.Copysign(0, -1)
	inf   = math.Inf(1)
	nan   = math.NaN()
)

// The calls' shapes, by which tests go over several of them.
type (
	two = func(x, y complex128) (complex128, api.Errno)
	one = func(x complex128) (complex128, api.Errno)
)

// same asks for the same bits: == would take -0 for 0.
func same(x, y complex128) bool {
	return math.Float64bits(real(x)) == math.Float64bits(real(y)) && math.Float64bits(imag(x)) == math.Float64bits(imag(y))
}

func quotient(x, y complex128) (complex128, api.Errno) {
	q, _, e := gauss.Divide(x, y)
	return q, e
}

func rest(x, y complex128) (complex128, api.Errno) {
	_, r, e := gauss.Divide(x, y)
	return r, e
}

// The shapes of the functions, as the chapter gives them.
var (
	_ func(complex128) api.Errno                                = gauss.Check
	_ two                                                       = gauss.Add
	_ two                                                       = gauss.Sub
	_ two                                                       = gauss.Mul
	_ func(complex128, int) (complex128, api.Errno)             = gauss.Turn
	_ one                                                       = gauss.Conj
	_ func(complex128) (int64, api.Errno)                       = gauss.Norm
	_ func(x, y complex128) (complex128, complex128, api.Errno) = gauss.Divide
	_ two                                                       = gauss.Gcd
	_ func(complex128) (string, api.Errno)                      = gauss.Text
	_ func(string) (complex128, api.Errno)                      = gauss.Parse
)

func TestExamplesOfTwo(t *testing.T) {
	for _, c := range []struct {
		name string
		f    two
		x, y complex128
		want complex128
		e    api.Errno
	}{
		{"Mul", gauss.Mul, 1 + 2i, 3 - 1i, 5 + 5i, api.OK},
		{"Add", gauss.Add, 9007199254740991, 1, 0, api.ErrBig},
		{"Mul", gauss.Mul, 94906267, 94906267i, 0, api.ErrBig},
		{"quotient", quotient, 7 + 2i, 2, 4 + 1i, api.OK},
		{"rest", rest, 7 + 2i, 2, -1, api.OK},
		{"quotient", quotient, 5, 1 + 2i, 1 - 2i, api.OK},
		{"rest", rest, 5, 1 + 2i, 0, api.OK},
		{"quotient", quotient, 1, 0, 0, api.ErrZero},
		{"rest", rest, 1, 0, 0, api.ErrZero},
		{"Gcd", gauss.Gcd, 6, 4 + 2i, 2, api.OK},
		{"Gcd", gauss.Gcd, 0, -3i, 3, api.OK},
		{"Gcd", gauss.Gcd, 0, 0, 0, api.OK},
	} {
		if z, e := c.f(c.x, c.y); !same(z, c.want) || e != c.e {
			t.Errorf("%s(%v, %v): %v, %d, not %v, %d", c.name, c.x, c.y, z, e, c.want, c.e)
		}
	}
}

func TestExamplesOfTurns(t *testing.T) {
	if z, e := gauss.Conj(3); !same(z, 3) || e != api.OK {
		t.Errorf("Conj(3): %v, %d", z, e)
	}
	for _, c := range []struct {
		x    complex128
		k    int
		want complex128
	}{
		{3, 1, 3i},
		{2 - 1i, -1, -1 - 2i},
		{2 - 1i, 6, -2 + 1i},
		{2 - 1i, 0, 2 - 1i},
		{2 - 1i, 1, 1 + 2i},
		{2 - 1i, 3, -1 - 2i},
		{2 - 1i, math.MaxInt, -1 - 2i},
		{2 - 1i, math.MinInt, 2 - 1i},
		{2 - 1i, math.MinInt + 1, 1 + 2i},
		{2 - 1i, -2, -2 + 1i},
		{2 - 1i, -3, 1 + 2i},
		{2 - 1i, -4, 2 - 1i},
		{complex(top, -top), 1, complex(top, top)},
		{complex(top, -top), 2, complex(-top, top)},
		{0, 1, 0},
		{0, 2, 0},
		{0, 3, 0},
		{5, 2, -5},
		{5i, 2, -5i},
		{5i, 3, 5},
		{5, 3, -5i},
		{5i, 1, -5},
	} {
		if z, e := gauss.Turn(c.x, c.k); !same(z, c.want) || e != api.OK {
			t.Errorf("Turn(%v, %d): %v, %d, not %v", c.x, c.k, z, e, c.want)
		}
	}
}

// wrongParts: none of these is a part of a Gaussian integer.
func wrongParts() []float64 {
	return []float64{
		minus, 0.5, -0.5, 1.5, -7.25, 0x1p51 + 0.5, math.Nextafter(1, 2), math.SmallestNonzeroFloat64, -math.SmallestNonzeroFloat64,
		0x1p53, -0x1p53, 0x1p53 + 2, 0x1p62, 0x1p63, -0x1p63, 0x1p64, math.MaxFloat64, -math.MaxFloat64, inf, -inf, nan, math.Copysign(nan, -1),
	}
}

// wrongNumbers: a wrong part beside right ones, ahead and behind, and beside itself.
func wrongNumbers() []complex128 {
	var l []complex128
	for _, p := range wrongParts() {
		l = append(l, complex(p, 0), complex(0, p), complex(p, -3), complex(top, p), complex(p, p))
	}
	return l
}

// rightParts: ordinary ones, and such whose squares, products or sums are at the bound or one past it.
func rightParts() []float64 {
	l := []float64{0}
	for _, p := range []float64{1, 2, 3, 5, 7, 12, 0x1p26 - 1, 0x1p26, 0x1p26 + 1, 67108863, 94906265, 94906266, 0x1p27, 0x1p52 - 1, 0x1p52, 0x1p52 + 1, top - 1, top} {
		l = append(l, p, -p)
	}
	return l
}

func rightNumbers() []complex128 {
	var l []complex128
	for _, a := range rightParts() {
		for _, b := range rightParts() {
			l = append(l, complex(a, b))
		}
	}
	return l
}

func TestCheck(t *testing.T) {
	for _, x := range rightNumbers() {
		if e := gauss.Check(x); e != api.OK {
			t.Errorf("Check(%v): %d", x, e)
		}
	}
	for _, x := range wrongNumbers() {
		if e := gauss.Check(x); e != api.ErrWhole {
			t.Errorf("Check(%v): %d", x, e)
		}
	}
}

// TestRefusesWrong: in either place, beside a right number, a divisor 0 and a number too great to be worked with.
func TestRefusesWrong(t *testing.T) {
	calls := map[string]two{"Add": gauss.Add, "Sub": gauss.Sub, "Mul": gauss.Mul, "quotient": quotient, "rest": rest, "Gcd": gauss.Gcd}
	for _, x := range wrongNumbers() {
		for _, y := range []complex128{0, 1, 2 - 3i, complex(top, top)} {
			for name, f := range calls {
				if z, e := f(x, y); !same(z, 0) || e != api.ErrWhole {
					t.Errorf("%s(%v, %v): %v, %d", name, x, y, z, e)
				}
				if z, e := f(y, x); !same(z, 0) || e != api.ErrWhole {
					t.Errorf("%s(%v, %v): %v, %d", name, y, x, z, e)
				}
			}
		}
		for _, k := range []int{0, 1, 2, 3, -1} {
			if z, e := gauss.Turn(x, k); !same(z, 0) || e != api.ErrWhole {
				t.Errorf("Turn(%v, %d): %v, %d", x, k, z, e)
			}
		}
		if z, e := gauss.Conj(x); !same(z, 0) || e != api.ErrWhole {
			t.Errorf("Conj(%v): %v, %d", x, z, e)
		}
		if n, e := gauss.Norm(x); n != 0 || e != api.ErrWhole {
			t.Errorf("Norm(%v): %d, %d", x, n, e)
		}
		if s, e := gauss.Text(x); s != "" || e != api.ErrWhole {
			t.Errorf("Text(%v): %q, %d", x, s, e)
		}
	}
}

// TestSteps: what is refused by one of its steps alone, though the answer would be small enough, and what is just not refused.
func TestSteps(t *testing.T) {
	for _, c := range []struct {
		name string
		f    two
		x, y complex128
		want complex128
		e    api.Errno
	}{
		{"Add", gauss.Add, top - 1, 1, top, api.OK},
		{"Add", gauss.Add, complex(0, -top), -1i, 0, api.ErrBig},
		{"Add", gauss.Add, complex(top, top), complex(top, top), 0, api.ErrBig},
		{"Add", gauss.Add, complex(top, -top), complex(-top, top), 0, api.OK},
		{"Sub", gauss.Sub, -top, 1, 0, api.ErrBig},
		{"Sub", gauss.Sub, complex(0, top), -1i, 0, api.ErrBig},
		{"Sub", gauss.Sub, 1 - top, 1, -top, api.OK},
		{"Sub", gauss.Sub, complex(top, -top), complex(top, -top), 0, api.OK},
		{"Mul, ac and bd", gauss.Mul, 0x1p27 + 0x1p27i, 0x1p26 + 0x1p26i, 0, api.ErrBig},
		{"Mul, ad and bc", gauss.Mul, 0x1p27 + 0x1p27i, 0x1p26 - 0x1p26i, 0, api.ErrBig},
		{"Mul, ac", gauss.Mul, 0x1p27, 0x1p26, 0, api.ErrBig},
		{"Mul, bd", gauss.Mul, 0x1p27i, 0x1p26i, 0, api.ErrBig},
		{"Mul, ad", gauss.Mul, 0x1p27, 0x1p26i, 0, api.ErrBig},
		{"Mul, bc", gauss.Mul, 0x1p27i, 0x1p26, 0, api.ErrBig},
		{"Mul, the difference", gauss.Mul, complex(0x1p26, 0x1p26), complex(0x1p26, -0x1p26), 0, api.ErrBig},
		{"Mul, the sum", gauss.Mul, complex(0x1p26, 0x1p26), complex(0x1p26, 0x1p26), 0, api.ErrBig},
		{"Mul, at the bound", gauss.Mul, complex(top, 0), -1i, complex(0, -top), api.OK},
		{"Mul, a nought", gauss.Mul, -5, 0, 0, api.OK},
		{"Mul, a nought", gauss.Mul, 0, -5 - 5i, 0, api.OK},
		{"Mul, a nought", gauss.Mul, -1i, 1i, 1, api.OK},
		{"Mul, a nought", gauss.Mul, -1, 1, -1, api.OK},
		{"quotient, the divisor's norm", quotient, 0, complex(94906266, 0), 0, api.ErrBig},
		{"quotient, the greatest divisor", quotient, 94906265, 94906265, 1, api.OK},
		{"quotient, times the conjugate", quotient, top, 2, 0, api.ErrBig},
		{"quotient, times the divisor", quotient, complex(0, top), 1 + 1i, 0, api.ErrBig},
		{"rest, times the divisor", rest, complex(0, top), 1 + 1i, 0, api.ErrBig},
		{"quotient, beside it", quotient, top, 1 + 1i, complex(0x1p52, -0x1p52+1), api.OK},
		{"rest, beside it", rest, top, 1 + 1i, -1i, api.OK},
		{"Gcd of what can't be divided", gauss.Gcd, 1, top, 0, api.ErrBig},
		{"Gcd without a division", gauss.Gcd, complex(-top, -top), 0, complex(top, top), api.OK},
		{"Gcd, a division of 0", gauss.Gcd, 0, top, 0, api.ErrBig},
	} {
		if z, e := c.f(c.x, c.y); !same(z, c.want) || e != c.e {
			t.Errorf("%s(%v, %v): %v, %d, not %v, %d", c.name, c.x, c.y, z, e, c.want, c.e)
		}
	}
}

func TestNorm(t *testing.T) {
	for _, c := range []struct {
		x complex128
		n int64
		e api.Errno
	}{
		{0, 0, api.OK},
		{3 - 4i, 25, api.OK},
		{-1i, 1, api.OK},
		{94906265, 94906265 * 94906265, api.OK},
		{94906266, 0, api.ErrBig},
		{-94906266i, 0, api.ErrBig},
		{0x1p26 + 0x1p26i, 0, api.ErrBig},
		{complex(0x1p26, 0x1p26-1), 1<<52 + (1<<26-1)*(1<<26-1), api.OK},
		{complex(top, top), 0, api.ErrBig},
	} {
		if n, e := gauss.Norm(c.x); n != c.n || e != c.e {
			t.Errorf("Norm(%v): %d, %d, not %d, %d", c.x, n, e, c.n, c.e)
		}
	}
}

// TestHalfWay: of two that are equally near the greater one, above 0 and below it.
func TestHalfWay(t *testing.T) {
	for _, c := range []struct{ x, y, q, r complex128 }{
		{1, 2, 1, -1},
		{-1, 2, 0, -1},
		{-3, 2, -1, -1},
		{3, -2, -1, 1},
		{3 - 3i, 2, 2 - 1i, -1 - 1i},
		{-5 + 5i, 2, -2 + 3i, -1 - 1i},
		{1i, 2, 1i, -1i},
		{1, 1 + 1i, 1, -1i},
		{5, 3, 2, -1},
		{4, 3, 1, 1},
		{-4, 3, -1, -1},
		{-5, 3, -2, 1},
		{1i, 3, 0, 1i},
		{0, 3 - 7i, 0, 0},
		{top, 1, top, 0},
		{complex(-top, top), -1i, complex(-top, -top), 0},
	} {
		q, r, e := gauss.Divide(c.x, c.y)
		if !same(q, c.q) || !same(r, c.r) || e != api.OK {
			t.Errorf("Divide(%v, %v): %v, %v, %d, not %v, %v", c.x, c.y, q, r, e, c.q, c.r)
		}
	}
}
