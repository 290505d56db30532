package dense

import (
	"cubit/amp"
	"cubit/api"
	"cubit/ring"
	"cubit/root"
)

// Weight is the state's weight, or ErrBig.
func Weight(s api.State) (api.Root, api.Errno) {
	if e := Check(s); e != api.OK {
		return api.Root{}, e
	}
	return weight(s, 0)
}

// Weights are that of the part where the qubit is 1, and that of all. A part weighs no more than all: it is refused only where all is.
func Weights(s api.State, qubit int) (one, all api.Root, e api.Errno) {
	if e := Check(s); e != api.OK {
		return api.Root{}, api.Root{}, e
	}
	if !hasQubit(s, qubit) {
		return api.Root{}, api.Root{}, api.ErrArg
	}
	if all, e = weight(s, 0); e != api.OK {
		return api.Root{}, api.Root{}, e
	}
	if one, e = weight(s, 1<<qubit); e != api.OK {
		return api.Root{}, api.Root{}, e
	}
	return one, all, api.OK
}

// weight is that of the elements with all of these bits set. An element adds to P, or nothing at all: once P is beyond the bound it stays there. No Q is greater than its P.
func weight(s api.State, set int) (api.Root, api.Errno) {
	var p, q int64
	for x, r := range s.Amps {
		if x&set != set {
			continue
		}
		w, e := ring.Weight(r)
		if e != api.OK {
			return api.Root{}, e
		}
		p, q = p+w.P, q+w.Q
		if p > api.MaxPart {
			return api.Root{}, api.ErrBig
		}
	}
	return root.Make(p, q, s.K)
}

// Project is the part of the state where the qubit is bit.
func Project(s api.State, qubit, bit int) (api.State, api.Errno) {
	if e := Check(s); e != api.OK {
		return api.State{}, e
	}
	if !hasQubit(s, qubit) || bit != 0 && bit != 1 {
		return api.State{}, api.ErrArg
	}
	part, null := own(s), true
	for x, r := range part.Amps {
		if x>>qubit&1 != bit {
			part.Amps[x] = api.Ring{}
		} else if r != (api.Ring{}) {
			null = false
		}
	}
	if null {
		return api.State{}, api.ErrNull
	}
	return oneForm(part), api.OK
}

// Amp is the amplitude of a basis state.
func Amp(s api.State, index uint64) (api.Amp, api.Errno) {
	if e := Check(s); e != api.OK {
		return api.Amp{}, e
	}
	if index >= 1<<s.N {
		return api.Amp{}, api.ErrArg
	}
	return amp.Make(s.Amps[index], s.K)
}

// Phase is the least power of w that makes a of b; false, if there is none.
func Phase(a, b api.State) (int, bool) {
	if Check(a) != api.OK || Check(b) != api.OK || a.N != b.N || a.K != b.K {
		return 0, false
	}
	for k := range 8 {
		if turned(a.Amps, b.Amps, k) {
			return k, true
		}
	}
	return 0, false
}

// turned tells whether each element of a is that of b times w to the power k. Both lists are of one length.
func turned(a, b []api.Ring, k int) bool {
	for x, r := range b {
		if t, e := ring.Turn(r, k); e != api.OK || t != a[x] {
			return false
		}
	}
	return true
}
