package cx_test

import (
	"math"
	"slices"
	"testing"

	"cubit/cx"
)

var (
	inf   = math.Inf(1)
	nan   = math.NaN()
	minus = math.Copysign(0, -1)
	big   = math.MaxFloat64
	tiny  = math.SmallestNonzeroFloat64
)

// The faces that the chapter lists: a changed signature doesn't build.
var (
	_ func(x, y complex128) complex128       = cx.Add
	_ func(x, y complex128) complex128       = cx.Sub
	_ func(x, y complex128) complex128       = cx.Mul
	_ func(x, y complex128) complex128       = cx.Div
	_ func(x complex128) complex128          = cx.Neg
	_ func(x complex128) complex128          = cx.Conj
	_ func(x complex128, k int) complex128   = cx.Turn
	_ func(x complex128) float64             = cx.Norm
	_ func(x complex128) float64             = cx.Abs
	_ func(x complex128) int                 = cx.Kind
	_ func(x, y complex128) bool             = cx.Equal
	_ func(x, y complex128) bool             = cx.Same
	_ func(x, y complex128, by float64) bool = cx.Near
	_ func(x complex128) complex128          = cx.Plain
	_ func(x complex128) complex64           = cx.Narrow
	_ func(x complex64) complex128           = cx.Widen
	_ func(l []complex128) complex128        = cx.Sum
	_ func(x, y []complex128) complex128     = cx.Dot
	_ [0]bool                                = [cx.Finite]bool{}
	_ [1]bool                                = [cx.Infinite]bool{}
	_ [2]bool                                = [cx.Nan]bool{}
)

// alike is the tests' own measure: the same bits, or NaN both.
func alike(p, q float64) bool {
	return p != p && q != q || math.Float64bits(p) == math.Float64bits(q)
}

func alikeBoth(x, y complex128) bool {
	return alike(real(x), real(y)) && alike(imag(x), imag(y))
}

type numberCase struct {
	name      string
	got, want complex128
}

func checkNumbers(t *testing.T, cases []numberCase) {
	t.Helper()
	for _, c := range cases {
		if !alikeBoth(c.got, c.want) {
			t.Errorf("%s: %v, not %v", c.name, c.got, c.want)
		}
	}
}

// P1.1: the chapter's examples of numbers.
func TestExamples(t *testing.T) {
	checkNumbers(t, []numberCase{
		{"Mul whole", cx.Mul(complex(1, 2), complex(3, 4)), complex(-5, 10)},
		{"Mul i i", cx.Mul(complex(0, 1), complex(0, 1)), complex(-1, 0)},
		{"Mul noughts", cx.Mul(complex(-1, 0), complex(0, 0)), complex(minus, 0)},
		{"Mul infinity", cx.Mul(complex(inf, 0), complex(0, 1)), complex(nan, inf)},
		{"Div", cx.Div(complex(1, 2), complex(3, 4)), complex(2.75/6.25, 0.5/6.25)},
		{"Div nought", cx.Div(complex(1, 0), complex(0, 0)), complex(nan, nan)},
		{"Conj", cx.Conj(complex(1, 0)), complex(1, minus)},
		{"Neg", cx.Neg(complex(0, minus)), complex(minus, 0)},
		{"Turn 1", cx.Turn(complex(0, 5), 1), complex(-5, 0)},
		{"Turn -1", cx.Turn(complex(1, 0), -1), complex(0, -1)},
		{"Narrow ends", cx.Widen(cx.Narrow(complex(1e300, 1e-300))), complex(inf, 0)},
		{"Narrow tie", cx.Widen(cx.Narrow(complex(16777217, 0))), complex(16777216, 0)},
		{"Sum none", cx.Sum(nil), 0},
		{"Sum noughts", cx.Sum([]complex128{complex(minus, minus)}), 0},
	})
	if got := cx.Abs(complex(3, 4)); got != 5 {
		t.Errorf("Abs(3, 4): %v", got)
	}
	if got := cx.Abs(complex(nan, -inf)); got != inf {
		t.Errorf("Abs(NaN, -Inf): %v", got)
	}
	if got := cx.Abs(complex(1e300, 1e300)); got != 1e300*math.Sqrt(2) {
		t.Errorf("Abs(1e300, 1e300): %v", got)
	}
	if got := cx.Norm(complex(1e300, 0)); got != inf {
		t.Errorf("Norm(1e300, 0): %v", got)
	}
	if cx.Kind(complex(nan, inf)) != cx.Infinite || cx.Kind(complex(nan, 0)) != cx.Nan {
		t.Error("Kind")
	}
	if !cx.Equal(0, complex(minus, 0)) || cx.Same(0, complex(minus, 0)) {
		t.Error("Equal, Same of noughts")
	}
	if !cx.Same(complex(nan, 1), complex(nan, 1)) || cx.Equal(complex(nan, 1), complex(nan, 1)) {
		t.Error("Equal, Same of NaN")
	}
	if !cx.Near(complex(inf, 0), complex(inf, 1), 1) {
		t.Error("Near of infinities")
	}
}

// P1.1: noughts, infinities, NaN and the ends of the floats in sums and quotients.
func TestEdgesOfNumbers(t *testing.T) {
	checkNumbers(t, []numberCase{
		{"Add", cx.Add(complex(1, 2), complex(3, -5)), complex(4, -3)},
		{"Add noughts", cx.Add(complex(minus, minus), complex(minus, 0)), complex(minus, 0)},
		{"Add ends", cx.Add(complex(big, tiny), complex(big, -tiny)), complex(inf, 0)},
		{"Add infinities", cx.Add(complex(inf, -inf), complex(-inf, -inf)), complex(nan, -inf)},
		{"Sub", cx.Sub(complex(1, 2), complex(3, -5)), complex(-2, 7)},
		{"Sub noughts", cx.Sub(complex(minus, 0), complex(0, minus)), complex(minus, 0)},
		{"Sub equals", cx.Sub(complex(7, minus), complex(7, minus)), 0},
		{"Sub infinities", cx.Sub(complex(inf, inf), complex(inf, -inf)), complex(nan, inf)},
		{"Sub ends", cx.Sub(complex(-big, 0), complex(big, tiny)), complex(-inf, -tiny)},
		{"Mul ends", cx.Mul(complex(big, 0), complex(2, tiny)), complex(inf, big*tiny)},
		{"Mul too small", cx.Mul(complex(tiny, 0), complex(-0.25, 0)), complex(minus, 0)},
		{"Mul NaN", cx.Mul(complex(nan, 0), complex(1, 1)), complex(nan, nan)},
		{"Div by the real part", cx.Div(complex(4, 2), complex(2, 0)), complex(2, 1)},
		{"Div by the imaginary part", cx.Div(complex(4, 2), complex(0, 2)), complex(1, -2)},
		{"Div equal parts", cx.Div(complex(1, 0), complex(1, 1)), complex(0.5, -0.5)},
		{"Div equal sizes", cx.Div(complex(1, 3), complex(-2, 2)), complex(0.5, -1)},
		{"Div ends", cx.Div(complex(big, 0), complex(big, big)), complex(0, minus)},
		{"Div too great", cx.Div(complex(1, 0), complex(tiny, 0)), complex(inf, 0)},
		{"Div by infinity", cx.Div(complex(1, 1), complex(inf, 0)), complex(0, 0)},
		{"Div by -infinity", cx.Div(complex(1, 1), complex(0, -inf)), complex(minus, 0)},
		{"Div by infinities", cx.Div(complex(1, 1), complex(inf, inf)), complex(nan, nan)},
		{"Div by NaN", cx.Div(complex(1, 0), complex(1, nan)), complex(nan, nan)},
		{"Div by NaN ahead", cx.Div(complex(1, 0), complex(nan, 1)), complex(nan, nan)},
		{"Div noughts", cx.Div(complex(minus, 0), complex(-1, 0)), complex(0, minus)},
		{"Neg", cx.Neg(complex(inf, 0)), complex(-inf, minus)},
		{"Neg NaN", cx.Neg(complex(nan, minus)), complex(nan, 0)},
		{"Conj noughts", cx.Conj(complex(minus, minus)), complex(minus, 0)},
		{"Conj infinity", cx.Conj(complex(-inf, inf)), complex(-inf, -inf)},
		{"Conj NaN", cx.Conj(complex(3, nan)), complex(3, nan)},
	})
}

// P1.1: what rounds by itself is not fused: a fused product would leave a rest where these have none.
func TestNothingIsFused(t *testing.T) {
	p := 1 + 0x1p-30 // its square needs more than 53 bits
	checkNumbers(t, []numberCase{
		{"Mul real", cx.Mul(complex(p, p), complex(p, p)), complex(0, 2*(p*p))},
		{"Mul imaginary", cx.Mul(complex(p, -p), complex(p, p)), complex(2*(p*p), 0)},
		{"Dot", cx.Dot([]complex128{complex(p, p)}, []complex128{complex(p, -p)}), complex(0, 2*(p*p))},
	})
	told := 0 // how many numbers would tell a fused sum of squares
	for i := range 1000 {
		f := 1 + float64(i)/1000
		want := 1 + float64(f*f)
		if math.FMA(f, f, 1) != want {
			told++
		}
		if cx.Norm(complex(1, f)) != want || cx.Norm(complex(f, 1)) != want {
			t.Errorf("Norm of 1 and %v", f)
		}
	}
	if told == 0 {
		t.Error("no number would tell")
	}
}

// P1.1: Turn by all remainders, of negative powers and of both ends of int too.
func TestTurn(t *testing.T) {
	for _, x := range []complex128{complex(1, 2), complex(0, minus), complex(inf, nan), complex(-big, tiny)} {
		a, b := real(x), imag(x)
		want := []complex128{x, complex(-b, a), complex(-a, -b), complex(b, -a)}
		for k := -9; k <= 9; k++ {
			if got := cx.Turn(x, k); !alikeBoth(got, want[(k+12)%4]) {
				t.Errorf("Turn(%v, %d): %v", x, k, got)
			}
		}
		for k, r := range map[int]int{math.MaxInt: 3, math.MaxInt - 1: 2, math.MinInt: 0, math.MinInt + 1: 1} {
			if got := cx.Turn(x, k); !alikeBoth(got, want[r]) {
				t.Errorf("Turn(%v, %d): %v", x, k, got)
			}
		}
	}
}

// P1.1: sizes at the edges.
func TestSizes(t *testing.T) {
	for _, c := range []struct {
		x         complex128
		norm, abs float64
		kind      int
	}{
		{0, 0, 0, cx.Finite},
		{complex(minus, minus), 0, 0, cx.Finite},
		{complex(-3, 4), 25, 5, cx.Finite},
		{complex(4, -3), 25, 5, cx.Finite},
		{complex(0, -7), 49, 7, cx.Finite},
		{complex(tiny, minus), 0, tiny, cx.Finite},
		{complex(tiny, tiny), 0, tiny, cx.Finite},
		{complex(big, 0), inf, big, cx.Finite},
		{complex(big, -big), inf, inf, cx.Finite},
		{complex(big, tiny), inf, big, cx.Finite},
		{complex(1e-200, 0), 0, 1e-200, cx.Finite},
		{complex(inf, 0), inf, inf, cx.Infinite},
		{complex(0, -inf), inf, inf, cx.Infinite},
		{complex(-inf, nan), nan, inf, cx.Infinite},
		{complex(nan, inf), nan, inf, cx.Infinite},
		{complex(nan, 0), nan, nan, cx.Nan},
		{complex(1, nan), nan, nan, cx.Nan},
		{complex(nan, nan), nan, nan, cx.Nan},
	} {
		if got := cx.Norm(c.x); !alike(got, c.norm) {
			t.Errorf("Norm(%v): %v, not %v", c.x, got, c.norm)
		}
		if got := cx.Abs(c.x); !alike(got, c.abs) {
			t.Errorf("Abs(%v): %v, not %v", c.x, got, c.abs)
		}
		if got := cx.Kind(c.x); got != c.kind {
			t.Errorf("Kind(%v): %v, not %v", c.x, got, c.kind)
		}
	}
}

// P1.1: the two measures of likeness, each part by itself.
func TestEqualAndSame(t *testing.T) {
	other := math.Float64frombits(0xfff0000000000001) // another NaN
	for _, c := range []struct {
		x, y        complex128
		equal, same bool
	}{
		{complex(1, 2), complex(1, 2), true, true},
		{complex(1, 2), complex(1, 3), false, false},
		{complex(1, 2), complex(3, 2), false, false},
		{complex(0, minus), complex(0, 0), true, false},
		{complex(minus, 0), complex(0, 0), true, false},
		{complex(minus, minus), complex(minus, minus), true, true},
		{complex(inf, -inf), complex(inf, -inf), true, true},
		{complex(inf, 0), complex(-inf, 0), false, false},
		{complex(nan, 1), complex(other, 1), false, true},
		{complex(1, other), complex(1, nan), false, true},
		{complex(nan, 1), complex(nan, 2), false, false},
		{complex(nan, 1), complex(1, nan), false, false},
		{complex(nan, 0), complex(0, 0), false, false},
	} {
		if got := cx.Equal(c.x, c.y); got != c.equal {
			t.Errorf("Equal(%v, %v): %v", c.x, c.y, got)
		}
		if got := cx.Same(c.x, c.y); got != c.same {
			t.Errorf("Same(%v, %v): %v", c.x, c.y, got)
		}
	}
}

// P1.1: Near at its bound, and by numbers that are none.
func TestNear(t *testing.T) {
	for _, c := range []struct {
		x, y complex128
		by   float64
		want bool
	}{
		{complex(1, 2), complex(1.5, 1.5), 0.5, true},
		{complex(1, 2), complex(1.5, 1.5), 0.4999, false},
		{complex(1, 2), complex(1, 3), 0.5, false},
		{complex(1, 2), complex(2, 2), 0.5, false},
		{complex(0, 0), complex(minus, minus), 0, true},
		{complex(0, 0), complex(tiny, 0), 0, false},
		{complex(0, 0), complex(tiny, 0), tiny, true},
		{1, 2, -1, false},
		{1, 1, -1, true},
		{1, 2, nan, false},
		{1, 1, nan, true},
		{1, 2, inf, true},
		{complex(inf, 0), complex(1, 0), big, false},
		{complex(inf, 0), complex(1, 0), inf, true},
		{complex(inf, 0), complex(-inf, 0), inf, true},
		{complex(inf, 0), complex(-inf, 0), big, false},
		{complex(inf, -inf), complex(inf, -inf), 0, true},
		{complex(big, 0), complex(-big, 0), big, false},
		{complex(nan, 0), complex(nan, 0), inf, false},
		{complex(0, nan), complex(0, nan), inf, false},
		{complex(0, nan), complex(0, 1), inf, false},
	} {
		if got := cx.Near(c.x, c.y, c.by); got != c.want {
			t.Errorf("Near(%v, %v, %v): %v", c.x, c.y, c.by, got)
		}
		if got := cx.Near(c.y, c.x, c.by); got != c.want {
			t.Errorf("Near(%v, %v, %v): %v", c.y, c.x, c.by, got)
		}
	}
}

// P1.1: Plain takes the signs of noughts away, and nothing else.
func TestPlain(t *testing.T) {
	checkNumbers(t, []numberCase{
		{"both noughts", cx.Plain(complex(minus, minus)), 0},
		{"real nought", cx.Plain(complex(minus, -3)), complex(0, -3)},
		{"imaginary nought", cx.Plain(complex(-inf, minus)), complex(-inf, 0)},
		{"NaN", cx.Plain(complex(nan, minus)), complex(nan, 0)},
		{"ends", cx.Plain(complex(-tiny, -big)), complex(-tiny, -big)},
		{"ordinary", cx.Plain(complex(1.5, 0)), complex(1.5, 0)},
	})
}

// P1.1: Narrow at the ends of float32 and at ties.
func TestNarrow(t *testing.T) {
	top := float64(math.MaxFloat32)
	edge := 0x1.ffffffp127 // half a step above the greatest float32: a tie, to even
	low := float64(math.SmallestNonzeroFloat32)
	for p, want := range map[float64]float32{
		0:                          0,
		1.5:                        1.5,
		-0.1:                       -0.1,
		16777217:                   16777216, // ties to even
		16777219:                   16777220,
		16777217.000000004:         16777218,
		top:                        math.MaxFloat32,
		-edge:                      float32(math.Inf(-1)),
		edge:                       float32(math.Inf(1)),
		math.Nextafter(edge, 0):    math.MaxFloat32,
		big:                        float32(math.Inf(1)),
		inf:                        float32(math.Inf(1)),
		-inf:                       float32(math.Inf(-1)),
		low:                        math.SmallestNonzeroFloat32,
		low / 2:                    0,
		math.Nextafter(low/2, 1):   math.SmallestNonzeroFloat32,
		-math.Nextafter(low/2, 1):  -math.SmallestNonzeroFloat32,
		low * 1.5:                  2 * math.SmallestNonzeroFloat32,
		0x1p-126:                   0x1p-126,
		math.Nextafter(0x1p-24, 1): 0x1.p-24,
	} {
		for _, z := range []complex64{cx.Narrow(complex(p, 1)), swap(cx.Narrow(complex(1, p)))} {
			if math.Float32bits(real(z)) != math.Float32bits(want) || imag(z) != 1 {
				t.Errorf("Narrow of %v: %v, not %v", p, z, want)
			}
		}
	}
	for _, p := range []float64{minus, -tiny, -low / 2} {
		z := cx.Narrow(complex(p, p))
		if math.Float32bits(real(z)) != 1<<31 || math.Float32bits(imag(z)) != 1<<31 {
			t.Errorf("Narrow of %v: %v, not a nought with a sign", p, z)
		}
	}
	if z := cx.Narrow(complex(nan, 2)); real(z) == real(z) || imag(z) != 2 {
		t.Errorf("Narrow of NaN: %v", z)
	}
}

func swap(z complex64) complex64 { return complex(imag(z), real(z)) }

// P1.1: Widen changes no number.
func TestWiden(t *testing.T) {
	lowest := float32(math.SmallestNonzeroFloat32)
	checkNumbers(t, []numberCase{
		{"third", cx.Widen(complex(float32(1)/3, -2)), complex(float64(float32(1)/3), -2)},
		{"ends", cx.Widen(complex(math.MaxFloat32, -lowest)), complex(0x1.fffffep127, -0x1p-149)},
		{"noughts", cx.Widen(complex(float32(minus), 0)), complex(minus, 0)},
		{"infinities", cx.Widen(complex(float32(inf), float32(-inf))), complex(inf, -inf)},
		{"NaN", cx.Widen(complex(float32(nan), 1)), complex(nan, 1)},
	})
}

// P1.1: Sum and Dot go from the front on, and as far as both lists go.
func TestLists(t *testing.T) {
	one := []complex128{complex(1, 2)}
	checkNumbers(t, []numberCase{
		{"Sum empty", cx.Sum([]complex128{}), 0},
		{"Sum one", cx.Sum(one), complex(1, 2)},
		{"Sum order", cx.Sum([]complex128{complex(1e100, 1), complex(1, 2), complex(-1e100, 3)}), complex(0, 6)},
		{"Sum other order", cx.Sum([]complex128{complex(1e100, 1), complex(-1e100, 2), complex(1, 3)}), complex(1, 6)},
		{"Sum infinities", cx.Sum([]complex128{complex(inf, inf), complex(-inf, 1)}), complex(nan, inf)},
		{"Dot nil", cx.Dot(nil, nil), 0},
		{"Dot nil first", cx.Dot(nil, one), 0},
		{"Dot nil second", cx.Dot(one, nil), 0},
		{"Dot empty", cx.Dot([]complex128{}, one), 0},
		{"Dot conjugates y", cx.Dot([]complex128{complex(0, 1)}, []complex128{complex(3, 4)}), complex(4, 3)},
		{"Dot first longer", cx.Dot([]complex128{complex(0, 1), complex(nan, 0)}, []complex128{complex(0, 1)}), complex(1, 0)},
		{"Dot second longer", cx.Dot([]complex128{complex(0, 1)}, []complex128{complex(0, 1), complex(nan, 0)}), complex(1, 0)},
		{"Dot order", cx.Dot([]complex128{1e100, 1, -1e100}, []complex128{1, 1, 1}), 0},
		{"Dot noughts", cx.Dot([]complex128{complex(minus, minus)}, []complex128{complex(1, 0)}), 0},
	})
}

// P1 (rule 5): the lists, their spare room included, stay as they were.
func TestListsStay(t *testing.T) {
	room := []complex128{complex(minus, 1), complex(2, minus), complex(3, inf), complex(4, 4)}
	kept := slices.Clone(room)
	cx.Sum(room[:2])
	cx.Dot(room[:2], room[1:3])
	cx.Dot(room[:1], room[:3])
	for i := range room {
		if !alikeBoth(room[i], kept[i]) {
			t.Errorf("number %d has become %v", i, room[i])
		}
	}
}
