package tableau

import (
	"slices"

	"cubit/api"
	"cubit/bits"
	"cubit/gate"
	"cubit/pauli"
)

// Apply is t with each row turned by a gate of Clifford's on these qubits.
func Apply(t api.Tableau, name string, qubits []int) (api.Tableau, api.Errno) {
	if e := Check(t); e != api.OK {
		return api.Tableau{}, e
	}
	return applied(t, name, qubits)
}

// applied is Apply of a right tableau.
func applied(t api.Tableau, name string, qubits []int) (api.Tableau, api.Errno) {
	if e := checkGate(t, name, qubits); e != api.OK {
		return api.Tableau{}, e
	}
	turns := turnsOf(name)
	next := copied(t)
	for j, row := range next.Rows {
		next.Rows[j] = turned(row, qubits, turns)
	}
	return next, api.OK
}

// checkGate tells what is wrong with a gate on these qubits. All of them are looked for in t ahead of any that stands there twice.
func checkGate(t api.Tableau, name string, qubits []int) api.Errno {
	arity := gate.Arity(name)
	if arity == 0 {
		return api.ErrGate
	}
	if len(qubits) != arity {
		return api.ErrArity
	}
	for _, q := range qubits {
		if !hasQubit(t, q) {
			return api.ErrIndex
		}
	}
	for j, q := range qubits {
		if slices.Contains(qubits[:j], q) {
			return api.ErrSame
		}
	}
	if !gate.Clifford(name) {
		return api.ErrClifford
	}
	return api.OK
}

// hasQubit tells whether t has a qubit of this number.
func hasQubit(t api.Tableau, qubit int) bool { return qubit >= 0 && qubit < t.N }

// turned is the row behind the gate. Its part on the gate's qubits is a string by itself: that is turned, X by X and Z by Z, and put back. Y is i X Z.
func turned(row api.Pauli, qubits []int, turns []api.Pauli) api.Pauli {
	x, _ := bits.Pick(row.X, qubits)
	z, _ := bits.Pick(row.Z, qubits)
	part := api.Pauli{N: len(qubits), Phase: (row.Phase + bits.Count(x&z)) & 3}
	for j := range qubits {
		if x>>j&1 == 1 {
			part, _ = pauli.Mul(part, turns[j])
		}
		if z>>j&1 == 1 {
			part, _ = pauli.Mul(part, turns[len(qubits)+j])
		}
	}
	row.X, _ = bits.Put(row.X, qubits, part.X)
	row.Z, _ = bits.Put(row.Z, qubits, part.Z)
	row.Phase = part.Phase
	return row
}

// turnsOf are what a gate of Clifford's makes of X on each of its qubits, and then of Z on each.
func turnsOf(name string) []api.Pauli {
	var turns []api.Pauli
	for _, text := range turnTexts(name) {
		p, _ := pauli.Parse(text)
		turns = append(turns, p)
	}
	return turns
}

// turnTexts are the texts of these strings: the letter of the gate's first qubit stands last.
func turnTexts(name string) []string {
	switch name {
	case "i", "w", "wdg":
		return []string{"X", "Z"}
	case "x":
		return []string{"X", "-Z"}
	case "y":
		return []string{"-X", "-Z"}
	case "z":
		return []string{"-X", "Z"}
	case "h":
		return []string{"Z", "X"}
	case "s":
		return []string{"Y", "Z"}
	case "sdg":
		return []string{"-Y", "Z"}
	case "v":
		return []string{"X", "-Y"}
	case "vdg":
		return []string{"X", "Y"}
	case "cx":
		return []string{"XX", "XI", "IZ", "ZZ"}
	case "cy":
		return []string{"YX", "XZ", "IZ", "ZZ"}
	case "cz":
		return []string{"ZX", "XZ", "IZ", "ZI"}
	case "swap":
		return []string{"XI", "IX", "ZI", "IZ"}
	case "iswap":
		return []string{"YZ", "ZY", "ZI", "IZ"}
	case "iswapdg":
		return []string{"-YZ", "-ZY", "ZI", "IZ"}
	}
	return nil
}
