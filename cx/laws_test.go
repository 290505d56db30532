package cx_test

import (
	"math"
	"testing"

	"cubit/cx"
)

func pairs(of func(x, y complex128)) {
	all := numbers()
	s := source(3)
	for range 100000 {
		of(all[s.next()>>33%uint64(len(all))], all[s.next()>>33%uint64(len(all))])
	}
}

// P1.2: Add and Mul hang on no order.
func TestOrderOfTwo(t *testing.T) {
	pairs(func(x, y complex128) {
		if !alikeBoth(cx.Add(x, y), cx.Add(y, x)) {
			t.Fatalf("Add of %v and %v", x, y)
		}
		if !alikeBoth(cx.Mul(x, y), cx.Mul(y, x)) {
			t.Fatalf("Mul of %v and %v", x, y)
		}
	})
}

// P1.2: Neg, Conj and four Turns of 1 take themselves back.
func TestTakenBack(t *testing.T) {
	for _, x := range numbers() {
		checkNumbers(t, []numberCase{
			{"Neg", cx.Neg(cx.Neg(x)), x},
			{"Conj", cx.Conj(cx.Conj(x)), x},
			{"Turn", cx.Turn(cx.Turn(cx.Turn(cx.Turn(x, 1), 1), 1), 1), x},
		})
	}
}

// P1.2: Widen and Narrow take themselves back where a number has come from complex64.
func TestWidenTakenBack(t *testing.T) {
	bits := []uint32{0, 1, 1 << 31, 1<<31 | 1, 0x007fffff, 0x00800000, 0x7f7fffff, 0x7f800000, 0xff800000, 0x7fc00000, 0x7f800001, 0x3f800000}
	s := source(4)
	for range 2000 {
		bits = append(bits, uint32(s.next()>>32))
	}
	for i, p := range bits {
		z := complex(math.Float32frombits(p), math.Float32frombits(bits[len(bits)-1-i]))
		back := cx.Narrow(cx.Widen(z))
		if !alike32(real(z), real(back)) || !alike32(imag(z), imag(back)) {
			t.Errorf("%v comes back as %v", z, back)
		}
		if wide := cx.Widen(z); !alikeBoth(cx.Widen(cx.Narrow(wide)), wide) {
			t.Errorf("%v comes back as %v", wide, cx.Widen(cx.Narrow(wide)))
		}
	}
}

func alike32(p, q float32) bool {
	return p != p && q != q || math.Float32bits(p) == math.Float32bits(q)
}

// P1.2: Turn(x, k) is Turn(Turn(x, 1), k - 1), and sizes stay under Conj, Neg and Turn.
func TestTurnsAndSizes(t *testing.T) {
	powers := []int{math.MinInt, math.MinInt + 1, -5, -4, -3, -2, -1, 0, 1, 2, 3, 4, 5, math.MaxInt - 1, math.MaxInt}
	for _, x := range numbers() {
		like := []complex128{cx.Conj(x), cx.Neg(x)}
		for _, k := range powers {
			if !alikeBoth(cx.Turn(x, k), cx.Turn(cx.Turn(x, 1), k-1)) {
				t.Fatalf("Turn(%v, %d)", x, k)
			}
			like = append(like, cx.Turn(x, k))
		}
		for _, y := range like {
			if !alike(cx.Norm(x), cx.Norm(y)) || !alike(cx.Abs(x), cx.Abs(y)) {
				t.Fatalf("sizes of %v and %v", x, y)
			}
		}
	}
}

// whole: from -bound to bound, the ends and noughts often.
func (s *source) whole(bound int64) int64 {
	switch s.next() >> 40 % 8 {
	case 0:
		return bound
	case 1:
		return -bound
	case 2:
		return 0
	}
	return int64(s.next()>>1%uint64(2*bound+1)) - bound
}

// P1.3: of whole parts up to 2^25 Mul is exact, and Go's own.
func TestWholeIsExact(t *testing.T) {
	s := source(5)
	for range 100000 {
		const bound = 1 << 25
		a, b, c, d := s.whole(bound), s.whole(bound), s.whole(bound), s.whole(bound)
		x, y := complex(float64(a), float64(b)), complex(float64(c), float64(d))
		got := cx.Mul(x, y)
		if int64(real(got)) != a*c-b*d || int64(imag(got)) != a*d+b*c || !cx.Equal(got, complex(float64(a*c-b*d), float64(a*d+b*c))) {
			t.Fatalf("Mul(%v, %v): %v", x, y, got)
		}
		if !cx.Equal(got, x*y) {
			t.Fatalf("Mul(%v, %v): %v, Go tells %v", x, y, got, x*y)
		}
	}
}

// P1.3: of whole parts up to 2^16 it hangs on no bracketing.
func TestBrackets(t *testing.T) {
	s := source(6)
	part := func() float64 { return float64(s.whole(1 << 16)) }
	for range 100000 {
		x, y, z := complex(part(), part()), complex(part(), part()), complex(part(), part())
		if l, r := cx.Mul(cx.Mul(x, y), z), cx.Mul(x, cx.Mul(y, z)); !cx.Equal(l, r) {
			t.Fatalf("%v, %v, %v: %v and %v", x, y, z, l, r)
		}
	}
}

func hasNan(x complex128) bool { return math.IsNaN(real(x)) || math.IsNaN(imag(x)) }

// P1.4: same numbers are equal or have a NaN; equal ones are near by 0.
func TestLikeness(t *testing.T) {
	look := func(x, y complex128) {
		if cx.Same(x, y) && !cx.Equal(x, y) && !hasNan(x) && !hasNan(y) {
			t.Errorf("%v and %v are the same, and not equal", x, y)
		}
		if cx.Equal(x, y) && !cx.Near(x, y, 0) {
			t.Errorf("%v and %v are equal, and not near", x, y)
		}
	}
	pairs(look)
	for _, x := range numbers() {
		look(x, x)
		look(x, cx.Plain(x))
		if !cx.Same(x, x) {
			t.Errorf("%v is not the same as itself", x)
		}
		if cx.Equal(x, x) == hasNan(x) {
			t.Errorf("%v equal to itself: %v", x, cx.Equal(x, x))
		}
	}
}

// P1.4: Plain(x) is equal to x, if x has no NaN, and no sign of a nought is left in it.
func TestPlainIsEqual(t *testing.T) {
	for _, x := range numbers() {
		p := cx.Plain(x)
		if !hasNan(x) && !cx.Equal(p, x) {
			t.Errorf("Plain(%v): %v", x, p)
		}
		if real(p) == 0 && math.Signbit(real(p)) || imag(p) == 0 && math.Signbit(imag(p)) {
			t.Errorf("Plain(%v) has a nought with a sign", x)
		}
	}
}
