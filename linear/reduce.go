package linear

import (
	"slices"

	"cubit/api"
)

// Rank is how many rows there are at most of which no sum of some is 0.
func Rank(m api.Linear) (int, api.Errno) {
	if e := Check(m); e != api.OK {
		return 0, e
	}
	return pairOf(m).reduce(), api.OK
}

// Inverse is the matrix that takes m back.
func Inverse(m api.Linear) (api.Linear, api.Errno) {
	if e := Check(m); e != api.OK {
		return api.Linear{}, e
	}
	p := pairOf(m)
	if p.reduce() < m.N {
		return api.Linear{}, api.ErrSingular
	}
	return api.Linear{N: m.N, Rows: p.back}, api.OK
}

// A pair is a matrix's rows and what was Eye at the beginning. All that is done to the rows is done to both: once the rows are Eye, back is what takes the matrix back.
type pair struct {
	rows, back []uint64
}

func pairOf(m api.Linear) pair { return pair{slices.Clone(m.Rows), eye(m.N)} }

// reduce brings the rows to a form in which each that isn't 0 has a column whose only one is its own, and counts these. The rows are Eye then, if none is 0.
func (p pair) reduce() int {
	rank := 0
	for column := range len(p.rows) {
		if p.lift(rank, column) {
			p.clear(rank, column)
			rank++
		}
	}
	return rank
}

// lift brings a row with a one in this column to this place; false: none from there on has one.
func (p pair) lift(place, column int) bool {
	for i := range len(p.rows) {
		if i >= place && has(p.rows[i], column) {
			p.exchange(i, place)
			return true
		}
	}
	return false
}

// clear leaves the one of this row as the only one in the column.
func (p pair) clear(place, column int) {
	for i := range len(p.rows) {
		if i != place && has(p.rows[i], column) {
			p.add(place, i)
		}
	}
}

func (p pair) exchange(i, j int) {
	p.rows[i], p.rows[j] = p.rows[j], p.rows[i]
	p.back[i], p.back[j] = p.back[j], p.back[i]
}

// add adds a row to another one.
func (p pair) add(from, to int) {
	p.rows[to] ^= p.rows[from]
	p.back[to] ^= p.back[from]
}
