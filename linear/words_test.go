package linear_test

import (
	"math/bits"
	"testing"

	"cubit/api"
	"cubit/linear"
)

// P20.1: Apply is what the words put onto numbers, for every matrix of up to three rows and every number.
func TestApplyOfAllSmallOnes(t *testing.T) {
	for n := range 4 {
		allOf(n, func(m api.Linear) {
			for x := range uint64(1) << n {
				if y := apply(t, m, x); y != put(m, x) {
					t.Errorf("Apply(%v, %d): %d, not %d", m, x, y, put(m, x))
				}
			}
		})
	}
}

// P20.1: the same for matrices of all sizes.
func TestApplyOfMany(t *testing.T) {
	s := source(11)
	for n := range api.MaxRows + 1 {
		for range 10 {
			m := s.some(n)
			for _, x := range s.numbers(n) {
				if y := apply(t, m, x); y != put(m, x) {
					t.Errorf("Apply(%v, %d): %d, not %d", m, x, y, put(m, x))
				}
			}
		}
	}
}

// multiplied asks that Mul(a, b) does what b and then a does, and is told by that.
func multiplied(t *testing.T, a, b api.Linear) {
	t.Helper()
	want := of(a.N, func(x uint64) uint64 { return put(a, put(b, x)) })
	if m := mul(t, a, b); !same(m, want) {
		t.Errorf("Mul(%v, %v): %v, not %v", a, b, m, want)
	}
}

// P20.1: Mul of every two matrices of up to two rows, of those of three rows with some, and of matrices of all sizes.
func TestMul(t *testing.T) {
	for n := range 3 {
		allOf(n, func(a api.Linear) {
			allOf(n, func(b api.Linear) { multiplied(t, a, b) })
		})
	}
	s := source(12)
	allOf(3, func(a api.Linear) {
		multiplied(t, a, s.any(3))
		multiplied(t, s.any(3), a)
	})
	for n := range api.MaxRows + 1 {
		for range 6 {
			multiplied(t, s.some(n), s.some(n))
		}
	}
}

// summed is how many rows there are at most of which no sum of some is 0: every set of rows is tried, and every sum within it.
func summed(m api.Linear) int {
	nought := make([]bool, 1<<m.N) // by set: the sum of all within is 0
	for set := 1; set < len(nought); set++ {
		sum := uint64(0)
		for i, row := range m.Rows {
			if set>>i&1 == 1 {
				sum ^= row
			}
		}
		nought[set] = sum == 0
	}
	most := 0
	for set := range len(nought) {
		free := true
		for part := set; part > 0 && free; part = (part - 1) & set {
			free = !nought[part]
		}
		if free {
			most = max(most, bits.OnesCount(uint(set)))
		}
	}
	return most
}

// P20.1: Rank by the sums of rows, for every matrix of up to four rows and some of up to ten.
func TestRankBySums(t *testing.T) {
	for n := range 5 {
		found := map[int]int{}
		allOf(n, func(m api.Linear) {
			want := summed(m)
			found[want]++
			if r := rank(t, m); r != want {
				t.Errorf("Rank(%v): %d, not %d", m, r, want)
			}
		})
		if len(found) != n+1 || found[0] != 1 {
			t.Errorf("%d rows: ranks %v", n, found)
		}
	}
	s := source(13)
	for j := range 400 {
		m := s.some(5 + j%6)
		if r, want := rank(t, m), summed(m); r != want {
			t.Errorf("Rank(%v): %d, not %d", m, r, want)
		}
	}
}

// P20.1: Rank of what is made with a rank, for all sizes and ranks.
func TestRankAsMade(t *testing.T) {
	s := source(14)
	for n := range api.MaxRows + 1 {
		for want := range n + 1 {
			m := s.ranked(n, want)
			if r := rank(t, m); r != want {
				t.Errorf("Rank(%v): %d, not %d", m, r, want)
			}
			if want < n {
				singular(t, m)
			}
		}
	}
}

// P20.1: a row that is 0, or one that stands there twice, or the sum of two others, leaves the rank as it is without it.
func TestRankWithRowsThatDontCount(t *testing.T) {
	s := source(15)
	for n := 3; n <= api.MaxRows; n++ {
		m := s.ranked(n, n)
		at := s.below(n)
		a, b := (at+1)%n, (at+2)%n
		for _, row := range []uint64{0, m.Rows[a], m.Rows[a] ^ m.Rows[b]} {
			m.Rows[at] = row
			if r := rank(t, m); r != n-1 {
				t.Errorf("Rank(%v): %d, not %d", m, r, n-1)
			}
			singular(t, m)
		}
	}
}

// oneToOne: does m lead no two numbers to one? Then, and only then, there is what takes it back.
func oneToOne(m api.Linear) bool {
	seen := map[uint64]int{}
	for x := range uint64(1) << m.N {
		seen[put(m, x)]++
	}
	return len(seen) == 1<<m.N
}

// takesBack asks that Inverse tells what leads each of these numbers back.
func takesBack(t *testing.T, m api.Linear, numbers []uint64) {
	t.Helper()
	back := inverse(t, m)
	if e := linear.Check(back); e != api.OK || back.N != m.N {
		t.Fatalf("Inverse(%v): %v", m, back)
	}
	for _, x := range numbers {
		if y := put(back, put(m, x)); y != x {
			t.Fatalf("Inverse(%v): %v leads %d to %d", m, back, x, y)
		}
	}
}

// P20.1: Inverse of every matrix of up to four rows: it is there just where no two numbers are led to one.
func TestInverseOfAllSmallOnes(t *testing.T) {
	want := []int{1, 1, 6, 168, 20160} // how many matrices of bits have an inverse
	for n := range 5 {
		var numbers []uint64
		for x := range uint64(1) << n {
			numbers = append(numbers, x)
		}
		taken := 0
		allOf(n, func(m api.Linear) {
			if !oneToOne(m) {
				singular(t, m)
				return
			}
			taken++
			takesBack(t, m, numbers)
		})
		if taken != want[n] {
			t.Errorf("%d matrices of %d rows have an inverse", taken, n)
		}
	}
}

// P20.1: Inverse of what is made by adding rows to rows: the same additions in the opposite order are the inverse, and there is no other.
func TestInverseAsMade(t *testing.T) {
	s := source(16)
	for n := 2; n <= api.MaxRows; n++ {
		for range 5 {
			m, want := eye(n), eye(n)
			for range 4 * n {
				i, j := s.two(n)
				m.Rows[i] ^= m.Rows[j]
				for k := range want.Rows { // ahead of all that took back what was added before: column i is added to column j
					want.Rows[k] ^= entry(want, k, i) << j
				}
			}
			if r := inverse(t, m); !same(r, want) {
				t.Fatalf("Inverse(%v): %v, not %v", m, r, want)
			}
			takesBack(t, m, s.numbers(n))
		}
	}
}
