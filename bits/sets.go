package bits

import (
	"iter"

	"cubit/api"
)

// maxOf bounds how many numbers Of goes through.
const maxOf = 16

// Subsets goes over all numbers with ones at ones of mask alone, rising. Each going over begins with a number of its own, so that several may go on at once.
func Subsets(mask uint64) iter.Seq[uint64] {
	return func(yield func(uint64) bool) {
		for set := uint64(0); yield(set) && set != mask; {
			set = (set - mask) & mask // set + 1, with the carry led over the noughts of mask
		}
	}
}

// Of is all numbers below 2^n with so many ones, rising.
func Of(n, ones int) ([]uint64, api.Errno) {
	if n < 0 || n > maxOf || ones < 0 || ones > n {
		return nil, api.ErrArg
	}
	var list []uint64
	for x := range uint64(1) << n {
		if Count(x) == ones {
			list = append(list, x)
		}
	}
	return list, api.OK
}
