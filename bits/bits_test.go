package bits_test

import (
	"fmt"
	"strings"
	"testing"

	"cubit/bits"
)

const all = 1<<64 - 1

// A row is a number as its 64 digits, the lowest first: what the calls answer is worked out here by moving digits.
type row [64]byte

func rowOf(x uint64) (r row) {
	text := fmt.Sprintf("%064b", x)
	for j := range r {
		r[j] = text[63-j]
	}
	return r
}

func (r row) number() (x uint64) {
	for j := range r {
		x += x + uint64(r[63-j]-'0')
	}
	return x
}

// worth is 2^j by doubling.
func worth(j int) uint64 {
	x := uint64(1)
	for range j {
		x += x
	}
	return x
}

// A source of numbers: the same ones each time.
type source uint64

func (s *source) next() uint64 {
	*s = *s*6364136223846793005 + 1442695040888963407
	x := uint64(*s)
	x ^= x >> 31
	x *= 0x9e3779b97f4a7c15
	return x ^ x>>29
}

func (s *source) below(n int) int { return int(s.next() >> 33 % uint64(n)) }

// number has any count of bits, and now and then few or many ones.
func (s *source) number() uint64 {
	x := s.next() >> s.below(64)
	switch s.below(4) {
	case 0:
		return x & s.next() & s.next()
	case 1:
		return ^x
	}
	return x
}

// places are so many, none twice, in any order.
func (s *source) places(many int) []int {
	l := make([]int, 64)
	for i := range l {
		l[i] = i
	}
	for i := range l {
		j := i + s.below(64-i)
		l[i], l[j] = l[j], l[i]
	}
	return l[:many:many]
}

// numbers are the edges (both ends, each bit alone, each number of ones beginning below or ending above) and others.
func numbers() []uint64 {
	l := []uint64{0, all, 0x5555555555555555, 0xaaaaaaaaaaaaaaaa}
	for j := range 64 {
		l = append(l, 1<<j, 1<<j-1, ^uint64(1<<j), all<<j, 1<<j+1)
	}
	for x := range uint64(64) {
		l = append(l, x)
	}
	s := source(1)
	for range 1000 {
		l = append(l, s.number())
	}
	return l
}

func TestRowIsTheNumber(t *testing.T) {
	for _, x := range numbers() {
		if rowOf(x).number() != x {
			t.Fatalf("the tests' row of %d is %d", x, rowOf(x).number())
		}
	}
}

func TestExamplesOfNumbers(t *testing.T) {
	for _, c := range []struct {
		name      string
		got, want uint64
	}{
		{"Count(11)", uint64(bits.Count(11)), 3},
		{"Parity(11)", uint64(bits.Parity(11)), 1},
		{"Low(12)", uint64(bits.Low(12)), 2},
		{"Low(0)", uint64(bits.Low(0)), 64},
		{"Gray(5)", bits.Gray(5), 7},
		{"Ungray(7)", bits.Ungray(7), 5},
		{"Count(0)", uint64(bits.Count(0)), 0},
		{"Count(2^64 - 1)", uint64(bits.Count(all)), 64},
		{"Parity(0)", uint64(bits.Parity(0)), 0},
		{"Parity(2^64 - 1)", uint64(bits.Parity(all)), 0},
		{"Parity(2^64 - 2)", uint64(bits.Parity(all - 1)), 1},
		{"Low(2^63)", uint64(bits.Low(1 << 63)), 63},
		{"Low(2^64 - 1)", uint64(bits.Low(all)), 0},
		{"Gray(0)", bits.Gray(0), 0},
		{"Gray(2^64 - 1)", bits.Gray(all), 1 << 63},
		{"Gray(2^63)", bits.Gray(1 << 63), 3 << 62},
		{"Ungray(0)", bits.Ungray(0), 0},
		{"Ungray(2^63)", bits.Ungray(1 << 63), all},
		{"Ungray(2^64 - 1)", bits.Ungray(all), 0xaaaaaaaaaaaaaaaa},
	} {
		if c.got != c.want {
			t.Errorf("%s: %d, not %d", c.name, c.got, c.want)
		}
	}
}

func TestOnes(t *testing.T) {
	for _, x := range numbers() {
		text := fmt.Sprintf("%064b", x)
		count := strings.Count(text, "1")
		low := 64
		if at := strings.LastIndex(text, "1"); at >= 0 {
			low = 63 - at
		}
		if bits.Count(x) != count || bits.Parity(x) != count%2 || bits.Low(x) != low {
			t.Errorf("of %s: Count %d, Parity %d, Low %d, not %d, %d, %d", text, bits.Count(x), bits.Parity(x), bits.Low(x), count, count%2, low)
		}
	}
}

// Gray by digits: bit j is 1 where the bits j and j + 1 differ.
func TestGrayByDigits(t *testing.T) {
	for _, x := range numbers() {
		r, want := rowOf(x), rowOf(0)
		for j := range 64 {
			if j == 63 && r[j] == '1' || j < 63 && r[j] != r[j+1] {
				want[j] = '1'
			}
		}
		if got := bits.Gray(x); got != want.number() {
			t.Errorf("Gray(%b): %b, not %b", x, got, want.number())
		}
	}
}

// Ungray by digits, from the highest down: a bit is the one above it, turned where x has a one.
func TestUngrayByDigits(t *testing.T) {
	for _, x := range numbers() {
		r, want := rowOf(x), rowOf(0)
		last := false
		for j := 63; j >= 0; j-- {
			if last = last != (r[j] == '1'); last {
				want[j] = '1'
			}
		}
		if got := bits.Ungray(x); got != want.number() {
			t.Errorf("Ungray(%b): %b, not %b", x, got, want.number())
		}
	}
}

// P3.4.
func TestGrayThereAndBack(t *testing.T) {
	for _, x := range numbers() {
		if got := bits.Ungray(bits.Gray(x)); got != x {
			t.Errorf("Ungray(Gray(%d)): %d", x, got)
		}
		if got := bits.Gray(bits.Ungray(x)); got != x {
			t.Errorf("Gray(Ungray(%d)): %d", x, got)
		}
		if x == all {
			continue
		}
		if d := bits.Gray(x) ^ bits.Gray(x+1); strings.Count(fmt.Sprintf("%b", d), "1") != 1 {
			t.Errorf("Gray of %d and of the next differ in %b", x, d)
		}
	}
}
