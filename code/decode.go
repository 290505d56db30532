package code

import (
	"iter"

	"cubit/api"
	"cubit/pauli"
)

// Distance is the least weight of a string that does something, or 0, if none does.
func Distance(c api.Code) (int, api.Errno) {
	if e := checkSearch(c); e != api.OK {
		return 0, e
	}
	for p := range ordered(c.N) {
		if doesSomething(c, p) {
			return pauli.Weight(p)
		}
	}
	return 0, api.OK
}

// Decode is the first string with this syndrome. There is always one, since no generator is a product of others.
func Decode(c api.Code, syndrome uint64) (api.Pauli, api.Errno) {
	if e := checkSearch(c); e != api.OK {
		return api.Pauli{}, e
	}
	if syndrome>>len(c.Gens) != 0 {
		return api.Pauli{}, api.ErrArg
	}
	var first api.Pauli
	for p := range ordered(c.N) {
		if unlike(c.Gens, p) == syndrome {
			first = p
			break
		}
	}
	return first, api.OK
}

// checkSearch tells what is wrong with a code for which all strings are to be gone through.
func checkSearch(c api.Code) api.Errno {
	if e := Check(c); e != api.OK {
		return e
	}
	if c.N > maxSearch {
		return api.ErrLong
	}
	return api.OK
}

// doesSomething tells whether p breaks no generator, but doesn't commute with all strings of the logical qubits.
func doesSomething(c api.Code, p api.Pauli) bool {
	return unlike(c.Gens, p) == 0 && unlike(c.X, p)|unlike(c.Z, p) != 0
}

// ordered are all strings on n qubits with the Phase 0 in their order.
func ordered(n int) iter.Seq[api.Pauli] {
	return func(yield func(api.Pauli) bool) {
		for weight := range n + 1 {
			for x := range uint64(1) << n {
				for z := range uint64(1) << n {
					p := api.Pauli{N: n, X: x, Z: z}
					if w, _ := pauli.Weight(p); w == weight && !yield(p) {
						return
					}
				}
			}
		}
	}
}
