package code

import (
	"cubit/api"
	"cubit/pauli"
)

// Syndrome is the number whose bit i is 1, if p breaks generator i.
func Syndrome(c api.Code, p api.Pauli) (uint64, api.Errno) {
	if e := checkBoth(c, p); e != api.OK {
		return 0, e
	}
	return unlike(c.Gens, p), api.OK
}

// Logical is what p does to the logical qubits, if it breaks no generator. An X is seen by the string in Z, a Z by that in X.
func Logical(c api.Code, p api.Pauli) (api.Pauli, api.Errno) {
	if e := checkBoth(c, p); e != api.OK {
		return api.Pauli{}, e
	}
	if unlike(c.Gens, p) != 0 {
		return api.Pauli{}, api.ErrArg
	}
	return api.Pauli{N: len(c.X), X: unlike(c.Z, p), Z: unlike(c.X, p)}, api.OK
}

// checkBoth tells what is wrong with a code and a string for it.
func checkBoth(c api.Code, p api.Pauli) api.Errno {
	if e := Check(c); e != api.OK {
		return e
	}
	if e := pauli.Check(p); e != api.OK {
		return e
	}
	if p.N != c.N {
		return api.ErrArg
	}
	return api.OK
}

// unlike is the number whose bit i is 1, if p doesn't commute with string i of the list.
func unlike(list []api.Pauli, p api.Pauli) uint64 {
	var number uint64
	for i, q := range list {
		if !commute(p, q) {
			number |= 1 << i
		}
	}
	return number
}
