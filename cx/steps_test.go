package cx_test

import (
	"math"
	exact "math/big"
	"testing"

	"cubit/cx"
)

// The operations of IEEE 754 once more, worked out in whole numbers of any length and rounded once: no machine's fusing gets into them.

const room = 2200 // bits: enough for the sum of the greatest and the smallest float

func number(p float64) *exact.Float { return new(exact.Float).SetPrec(room).SetFloat64(p) }

func rounded(f *exact.Float) float64 {
	p, _ := f.Float64()
	return p
}

func sign(p float64) float64 { return math.Copysign(1, p) }

func plus(p, q float64) float64 {
	switch {
	case p != p || q != q || math.IsInf(p, 0) && math.IsInf(q, 0) && p != q:
		return nan
	case math.IsInf(p, 0):
		return p
	case math.IsInf(q, 0):
		return q
	case p == 0 && q == 0 && sign(p) == sign(q):
		return p
	case p == -q:
		return 0
	}
	return rounded(new(exact.Float).SetPrec(room).Add(number(p), number(q)))
}

func product(p, q float64) float64 {
	s := sign(p) * sign(q)
	switch {
	case p != p || q != q || p == 0 && math.IsInf(q, 0) || math.IsInf(p, 0) && q == 0:
		return nan
	case math.IsInf(p, 0) || math.IsInf(q, 0):
		return math.Inf(int(s))
	case p == 0 || q == 0:
		return math.Copysign(0, s)
	}
	return rounded(new(exact.Float).SetPrec(room).Mul(number(p), number(q)))
}

func quotient(p, q float64) float64 {
	s := sign(p) * sign(q)
	switch {
	case p != p || q != q || p == 0 && q == 0 || math.IsInf(p, 0) && math.IsInf(q, 0):
		return nan
	case math.IsInf(p, 0) || q == 0:
		return math.Inf(int(s))
	case p == 0 || math.IsInf(q, 0):
		return math.Copysign(0, s)
	}
	return rounded(new(exact.Float).SetPrec(room).Quo(number(p), number(q)))
}

func turned(p float64) float64 { return math.Float64frombits(math.Float64bits(p) ^ 1<<63) }

func unsigned(p float64) float64 { return math.Float64frombits(math.Float64bits(p) &^ (1 << 63)) }

func less(p, q float64) float64 { return plus(p, turned(q)) }

func mulBySteps(x, y complex128) complex128 {
	a, b, c, d := real(x), imag(x), real(y), imag(y)
	return complex(less(product(a, c), product(b, d)), plus(product(a, d), product(b, c)))
}

func divBySteps(x, y complex128) complex128 {
	a, b, c, d := real(x), imag(x), real(y), imag(y)
	if unsigned(c) >= unsigned(d) {
		t := quotient(d, c)
		s := plus(c, product(d, t))
		return complex(quotient(plus(a, product(b, t)), s), quotient(less(b, product(a, t)), s))
	}
	t := quotient(c, d)
	s := plus(product(c, t), d)
	return complex(quotient(plus(product(a, t), b), s), quotient(less(product(b, t), a), s))
}

func absBySteps(x complex128) float64 {
	a, b := unsigned(real(x)), unsigned(imag(x))
	switch {
	case a == inf || b == inf:
		return inf
	case a != a || b != b:
		return nan
	case a == 0 && b == 0:
		return 0
	}
	t := quotient(min(a, b), max(a, b))
	root := new(exact.Float).SetPrec(300).Sqrt(number(plus(1, product(t, t))))
	return product(max(a, b), rounded(root))
}

// edges: parts at which something changes.
func edges() []float64 {
	l := []float64{0, 1, 0.5, 3, 1.0 / 3, 0x1p53 - 1, 0x1p53, 16777217, 1 + 0x1p-30, 1e300, 1e-300, 0x1p-1022, big, tiny, inf}
	for _, p := range l {
		l = append(l, -p)
	}
	return append(l, minus, nan)
}

// A source of parts: the same ones each time.
type source uint64

func (s *source) next() uint64 {
	*s = *s*6364136223846793005 + 1442695040888963407
	return uint64(*s) ^ uint64(*s)>>29
}

func (s *source) pick(l []float64) float64 { return l[s.next()>>33%uint64(len(l))] }

// part: an edge, any bits at all, or a number of about 1.
func (s *source) part(l []float64) float64 {
	switch s.next() >> 40 % 4 {
	case 0:
		return math.Float64frombits(s.next())
	case 1:
		return s.pick(l)
	}
	return math.Float64frombits(s.next()>>12|0x3fe0<<48) * sign(s.pick(l))
}

// numbers: all pairs of edges, and as many others.
func numbers() []complex128 {
	l := edges()
	var s source
	var all []complex128
	for _, a := range l {
		for _, b := range l {
			all = append(all, complex(a, b), complex(s.part(l), s.part(l)))
		}
	}
	return all
}

// P1.1: each call of two numbers by its steps, bit by bit.
func TestTwoBySteps(t *testing.T) {
	all := numbers()
	s := source(1)
	for i := range 40000 {
		x, y := all[s.next()>>33%uint64(len(all))], all[s.next()>>33%uint64(len(all))]
		checkNumbers(t, []numberCase{
			{"Add", cx.Add(x, y), complex(plus(real(x), real(y)), plus(imag(x), imag(y)))},
			{"Sub", cx.Sub(x, y), complex(less(real(x), real(y)), less(imag(x), imag(y)))},
			{"Mul", cx.Mul(x, y), mulBySteps(x, y)},
			{"Div", cx.Div(x, y), divBySteps(x, y)},
		})
		if t.Failed() {
			t.Fatalf("pair %d: of %v and %v", i, x, y)
		}
	}
}

// P1.1: each call of one number by its steps, bit by bit.
func TestOneBySteps(t *testing.T) {
	for _, x := range numbers() {
		a, b := real(x), imag(x)
		checkNumbers(t, []numberCase{
			{"Neg", cx.Neg(x), complex(turned(a), turned(b))},
			{"Conj", cx.Conj(x), complex(a, turned(b))},
			{"Norm", complex(cx.Norm(x), 0), complex(plus(product(a, a), product(b, b)), 0)},
			{"Abs", complex(cx.Abs(x), 0), complex(absBySteps(x), 0)},
			{"Plain", cx.Plain(x), complex(plus(a, 0), plus(b, 0))},
		})
		if t.Failed() {
			t.Fatalf("of %v", x)
		}
	}
}

// P1.1: Sum and Dot by their steps.
func TestListsBySteps(t *testing.T) {
	s := source(2)
	for range 300 {
		var x, y []complex128
		for range s.next() >> 40 % 9 {
			x = append(x, complex(s.part([]float64{minus, 1e17}), s.part([]float64{0, 3})))
		}
		for range s.next() >> 40 % 9 {
			y = append(y, complex(s.part([]float64{0.1, -1}), s.part([]float64{minus, 7})))
		}
		var sum, dot complex128
		for i, z := range x {
			sum = complex(plus(real(sum), real(z)), plus(imag(sum), imag(z)))
			if i < len(y) {
				p := mulBySteps(z, complex(real(y[i]), turned(imag(y[i]))))
				dot = complex(plus(real(dot), real(p)), plus(imag(dot), imag(p)))
			}
		}
		checkNumbers(t, []numberCase{{"Sum", cx.Sum(x), sum}, {"Dot", cx.Dot(x, y), dot}})
	}
}
