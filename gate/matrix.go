package gate

import (
	"cubit/amp"
	"cubit/api"
)

// noughts is a matrix of noughts. Each row has memory of its own: a caller may let one grow.
func noughts(rows, columns int) [][]api.Amp {
	m := make([][]api.Amp, rows)
	for x := range m {
		m[x] = make([]api.Amp, columns)
	}
	return m
}

// shaped tells whether a is a matrix: at least one row and one column, all rows of one length.
func shaped(a [][]api.Amp) bool {
	if len(a) == 0 || len(a[0]) == 0 {
		return false
	}
	for _, row := range a {
		if len(row) != len(a[0]) {
			return false
		}
	}
	return true
}

// checkEntries tells the error of the first entry that has one, row by row.
func checkEntries(a [][]api.Amp) api.Errno {
	for _, row := range a {
		for _, v := range row {
			if e := amp.Check(v); e != api.OK {
				return e
			}
		}
	}
	return api.OK
}

// checkBoth tells what is wrong with two matrices that are to be multiplied: the shapes of both come ahead of all entries.
func checkBoth(a, b [][]api.Amp) api.Errno {
	if !shaped(a) || !shaped(b) || len(a[0]) != len(b) {
		return api.ErrArg
	}
	if e := checkEntries(a); e != api.OK {
		return e
	}
	return checkEntries(b)
}

// Mul is the product a b, or the first error of its steps.
func Mul(a, b [][]api.Amp) ([][]api.Amp, api.Errno) {
	if e := checkBoth(a, b); e != api.OK {
		return nil, e
	}
	m := noughts(len(a), len(b[0]))
	for x, row := range a {
		for y := range m[x] {
			sum, e := dot(row, b, y)
			if e != api.OK {
				return nil, e
			}
			m[x][y] = sum
		}
	}
	return m, api.OK
}

// dot is the sum of the products of the row's entries with those of b's column y, from the first one on.
func dot(row []api.Amp, b [][]api.Amp, y int) (api.Amp, api.Errno) {
	var sum api.Amp
	for k, v := range row {
		product, e := amp.Mul(v, b[k][y])
		if e != api.OK {
			return api.Amp{}, e
		}
		if sum, e = amp.Add(sum, product); e != api.OK {
			return api.Amp{}, e
		}
	}
	return sum, api.OK
}

// Adjoint is a with rows and columns exchanged and each entry's conjugate in its place. Conj is asked row by row, and itself refuses what Check refuses: so the first error is the right one.
func Adjoint(a [][]api.Amp) ([][]api.Amp, api.Errno) {
	if !shaped(a) {
		return nil, api.ErrArg
	}
	m := noughts(len(a[0]), len(a))
	for y, row := range a {
		for x, v := range row {
			c, e := amp.Conj(v)
			if e != api.OK {
				return nil, e
			}
			m[x][y] = c
		}
	}
	return m, api.OK
}

// Unitary tells whether a's adjoint takes a back.
func Unitary(a [][]api.Amp) (bool, api.Errno) {
	back, e := Adjoint(a)
	if e != api.OK {
		return false, e
	}
	if len(a) != len(a[0]) {
		return false, api.OK
	}
	m, e := Mul(a, back)
	if e != api.OK {
		return false, e
	}
	return isOne(m), api.OK
}

// isOne tells whether m is 1 on its diagonal and nought elsewhere. Amplitudes in their one form are the same number only where they are equal.
func isOne(m [][]api.Amp) bool {
	for x, row := range m {
		for y, v := range row {
			want := api.Amp{}
			if x == y {
				want.R.A = 1
			}
			if v != want {
				return false
			}
		}
	}
	return true
}
