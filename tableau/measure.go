package tableau

import (
	"slices"

	"cubit/api"
	"cubit/pauli"
)

// Certain is the outcome of a qubit's measurement, where there is no choice.
func Certain(t api.Tableau, qubit int) (outcome int, certain bool, e api.Errno) {
	if e := Check(t); e != api.OK {
		return 0, false, e
	}
	return found(t, qubit)
}

// found is Certain of a right tableau. Where no stabilizer has X or Y on the qubit, all of them commute with Z there: so that or its negative is in the group.
func found(t api.Tableau, qubit int) (outcome int, certain bool, e api.Errno) {
	if !hasQubit(t, qubit) {
		return 0, false, api.ErrIndex
	}
	if firstFlip(t, qubit) >= 0 {
		return 0, false, api.OK
	}
	z, _ := pauli.One(t.N, qubit, 'Z')
	if value(t, z) == 1 {
		return 0, true, api.OK
	}
	return 1, true, api.OK
}

// Project is t behind a measurement of the qubit that found bit.
func Project(t api.Tableau, qubit, bit int) (api.Tableau, api.Errno) {
	if e := Check(t); e != api.OK {
		return api.Tableau{}, e
	}
	return projected(t, qubit, bit)
}

// projected is Project of a right tableau.
func projected(t api.Tableau, qubit, bit int) (api.Tableau, api.Errno) {
	outcome, certain, e := found(t, qubit)
	switch {
	case e != api.OK:
		return api.Tableau{}, e
	case bit != 0 && bit != 1:
		return api.Tableau{}, api.ErrArg
	case !certain:
		return chosen(t, qubit, bit), api.OK
	case outcome != bit:
		return api.Tableau{}, api.ErrNull
	}
	return copied(t), api.OK
}

// chosen is t behind an outcome that wasn't certain. The first stabilizer that flips the qubit makes way for Z there, and is multiplied into each other row that does, so that these commute with Z. What that makes of the stabilizer itself and of its partner is written over.
func chosen(t api.Tableau, qubit, bit int) api.Tableau {
	next := copied(t)
	i := firstFlip(t, qubit)
	p := t.Rows[t.N+i]
	for j, row := range t.Rows {
		if flips(row, qubit) {
			next.Rows[j], _ = pauli.Mul(p, row)
		}
	}
	z, _ := pauli.One(t.N, qubit, 'Z')
	z.Phase = 2 * bit
	next.Rows[i], next.Rows[t.N+i] = p, z
	return next
}

// firstFlip is the number, among the stabilizers, of the first one that has X or Y on the qubit; -1, if none has.
func firstFlip(t api.Tableau, qubit int) int {
	return slices.IndexFunc(stabilizers(t), func(row api.Pauli) bool { return flips(row, qubit) })
}

// flips tells whether p has X or Y on the qubit.
func flips(p api.Pauli, qubit int) bool { return p.X>>qubit&1 == 1 }
