package linear_test

import (
	"slices"
	"testing"

	"cubit/api"
	"cubit/linear"
)

// matrix is one of these rows.
func matrix(rows ...uint64) api.Linear { return api.Linear{N: len(rows), Rows: rows} }

// same: are these the same matrices? (No list and an empty one are the same.)
func same(a, b api.Linear) bool { return a.N == b.N && slices.Equal(a.Rows, b.Rows) }

func none(m api.Linear) bool { return m.N == 0 && len(m.Rows) == 0 }

// entry is the one of a matrix in row i and column j.
func entry(m api.Linear, i, j int) uint64 { return m.Rows[i] >> j & 1 }

// put is m put onto x, entry by entry.
func put(m api.Linear, x uint64) uint64 {
	y := uint64(0)
	for i := range m.N {
		bit := uint64(0)
		for j := range m.N {
			bit += entry(m, i, j) * (x >> j & 1)
		}
		y += bit % 2 << i
	}
	return y
}

// of is the matrix of n rows that does to numbers what f does; f must be one that sums don't matter to.
func of(n int, f func(x uint64) uint64) api.Linear {
	m := api.Linear{N: n, Rows: make([]uint64, n)}
	for j := range n {
		y := f(1 << j)
		for i := range n {
			m.Rows[i] |= y >> i & 1 << j
		}
	}
	return m
}

// eye is the matrix that changes no number.
func eye(n int) api.Linear { return of(n, func(x uint64) uint64 { return x }) }

// turned is a matrix with its rows exchanged with its columns.
func turned(m api.Linear) api.Linear {
	r := api.Linear{N: m.N, Rows: make([]uint64, m.N)}
	for i := range m.N {
		for j := range m.N {
			r.Rows[j] |= entry(m, i, j) << i
		}
	}
	return r
}

// last is the greatest number below 2^n.
func last(n int) uint64 {
	x := uint64(0)
	for range n {
		x = x<<1 | 1
	}
	return x
}

// allOf hands on every matrix of n rows.
func allOf(n int, then func(m api.Linear)) {
	for number := range uint64(1) << (n * n) {
		rows := make([]uint64, n)
		for i := range rows {
			rows[i] = number >> (i * n) & last(n)
		}
		then(matrix(rows...))
	}
}

// A source of matrices, numbers and circuits: the same ones each time.
type source uint64

func (s *source) next() uint64 {
	*s = *s*6364136223846793005 + 1442695040888963407
	return uint64(*s) ^ uint64(*s)>>29
}

// below is a number from 0 to n - 1; the highest bits are taken, since the lowest ones repeat soon.
func (s *source) below(n int) int { return int((s.next() >> 33) % uint64(n)) }

// number is one below 2^n.
func (s *source) number(n int) uint64 { return (s.next()>>32 | s.next()>>32<<32) & last(n) }

// numbers are some below 2^n, those at both ends among them.
func (s *source) numbers(n int) []uint64 {
	list := []uint64{0, last(n), last(n) / 2, last(n) - last(n)/2}
	for range 12 {
		list = append(list, s.number(n))
	}
	return list
}

// two are two numbers below n, not the same.
func (s *source) two(n int) (int, int) {
	a, b := s.below(n), s.below(n-1)
	if b >= a {
		b++
	}
	return a, b
}

// any is a matrix of n rows, with many ones or with few.
func (s *source) any(n int) api.Linear {
	m := api.Linear{N: n, Rows: make([]uint64, n)}
	few := s.below(3) == 0
	for i := range m.Rows {
		m.Rows[i] = s.number(n)
		if few {
			m.Rows[i] &= s.number(n) & s.number(n)
		}
	}
	return m
}

// ranked is a matrix of n rows and a rank: so many ones, at places of which no two share a row or a column, and then rows added to rows, and columns to columns, which leave the rank.
func (s *source) ranked(n, rank int) api.Linear {
	m := api.Linear{N: n, Rows: make([]uint64, n)}
	rows, columns := s.shuffled(n), s.shuffled(n)
	for k := range rank {
		m.Rows[rows[k]] = 1 << columns[k]
	}
	if n < 2 {
		return m
	}
	for range 3 * n {
		i, j := s.two(n)
		m.Rows[i] ^= m.Rows[j]
		i, j = s.two(n)
		for k := range m.Rows {
			m.Rows[k] ^= entry(m, k, i) << j
		}
	}
	return m
}

// shuffled are the numbers below n in any order.
func (s *source) shuffled(n int) []int {
	list := make([]int, n)
	for k := range list {
		j := s.below(k + 1)
		list[k], list[j] = list[j], k
	}
	return list
}

// some is a matrix of n rows of any sort: anything, or one that has a way back, or one of a lower rank.
func (s *source) some(n int) api.Linear {
	switch s.below(4) {
	case 0:
		return s.any(n)
	case 1:
		return s.ranked(n, s.below(n+1))
	case 2:
		return s.ranked(n, max(0, n-1))
	}
	return s.ranked(n, n)
}

// sizes are numbers of rows, both ends among them.
func sizes() []int { return []int{0, 1, 2, 3, 4, 5, 7, 8, 10, 13, 16, 31, 32, 33, 47, 63, 64} }

// The calls of arguments that are taken.

func mul(t *testing.T, a, b api.Linear) api.Linear {
	t.Helper()
	m, e := linear.Mul(a, b)
	if e != api.OK {
		t.Fatalf("Mul(%v, %v): %d", a, b, e)
	}
	return m
}

func apply(t *testing.T, m api.Linear, x uint64) uint64 {
	t.Helper()
	y, e := linear.Apply(m, x)
	if e != api.OK {
		t.Fatalf("Apply(%v, %d): %d", m, x, e)
	}
	return y
}

func rank(t *testing.T, m api.Linear) int {
	t.Helper()
	r, e := linear.Rank(m)
	if e != api.OK {
		t.Fatalf("Rank(%v): %d", m, e)
	}
	return r
}

func inverse(t *testing.T, m api.Linear) api.Linear {
	t.Helper()
	r, e := linear.Inverse(m)
	if e != api.OK {
		t.Fatalf("Inverse(%v): %d", m, e)
	}
	return r
}

func from(t *testing.T, c api.Circuit) api.Linear {
	t.Helper()
	m, e := linear.From(c)
	if e != api.OK {
		t.Fatalf("From(%v): %d", c, e)
	}
	return m
}

func synth(t *testing.T, m api.Linear) api.Circuit {
	t.Helper()
	c, e := linear.Synth(m)
	if e != api.OK {
		t.Fatalf("Synth(%v): %d", m, e)
	}
	return c
}

// singular asks that neither Inverse nor Synth finds a way back, and that they tell nothing beside.
func singular(t *testing.T, m api.Linear) {
	t.Helper()
	if r, e := linear.Inverse(m); !none(r) || e != api.ErrSingular {
		t.Errorf("Inverse(%v): %v, %d", m, r, e)
	}
	if c, e := linear.Synth(m); !empty(c) || e != api.ErrSingular {
		t.Errorf("Synth(%v): %v, %d", m, c, e)
	}
}
