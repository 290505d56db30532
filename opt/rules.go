package opt

// step lets the first rule that fits do its work, at the lowest operation at which it fits. A rule is asked of one operation after another, and tells whether it fitted there.
func (d *draft) step() bool {
	for _, rule := range []func(j int) bool{d.idle, d.undo, d.merge, d.flip} {
		for j := range d.parts {
			if rule(j) {
				return true
			}
		}
	}
	return false
}

// idle takes out a gate that does nothing.
func (d *draft) idle(j int) bool {
	if d.parts[j].op.Name != "i" {
		return false
	}
	d.replace("", j)
	return true
}

// undo takes out two neighbours of which the second takes the first back.
func (d *draft) undo(j int) bool {
	k, ok := d.neighbour(j)
	if !ok {
		return false
	}
	a, b := &d.parts[j], &d.parts[k]
	if b.op.Name != a.inverse || !a.asGood(b) {
		return false
	}
	d.replace("", j, k)
	return true
}

// merge makes one turning gate, or none, of two neighbours that are such.
func (d *draft) merge(j int) bool {
	if d.parts[j].turn == 0 {
		return false
	}
	k, ok := d.neighbour(j)
	if !ok || d.parts[k].turn == 0 {
		return false
	}
	sum := (d.parts[j].turn + d.parts[k].turn) % 8
	name := turning()[sum]
	if sum != 0 && name == "" {
		return false
	}
	d.replace(name, j, k)
	return true
}

// flip makes z of h, x, h, and x of h, z, h.
func (d *draft) flip(j int) bool {
	if d.parts[j].op.Name != "h" {
		return false
	}
	k, ok := d.neighbour(j)
	if !ok {
		return false
	}
	name := flipped(d.parts[k].op.Name)
	if name == "" {
		return false
	}
	l, ok := d.neighbour(k)
	if !ok || d.parts[l].op.Name != "h" {
		return false
	}
	d.replace(name, j, k, l)
	return true
}

// flipped is what a gate between two h is by itself; empty, if no rule tells it.
func flipped(name string) string {
	switch name {
	case "x":
		return "z"
	case "z":
		return "x"
	}
	return ""
}

// turning are the turning gates by their turns; empty where there is none.
func turning() [8]string {
	return [8]string{1: "t", 2: "s", 4: "z", 6: "sdg", 7: "tdg"}
}

// turnOf is a gate's turn; 0 of one that is no turning gate.
func turnOf(name string) int {
	for turn, other := range turning() {
		if other == name {
			return turn
		}
	}
	return 0
}

// exchangeable are the places, from ahead of to, at which a gate doesn't mind the order of its qubits.
func exchangeable(name string) (from, to int) {
	switch name {
	case "cz", "cs", "csdg", "swap", "iswap", "iswapdg", "ccx":
		return 0, 2
	case "ccz":
		return 0, 3
	case "cswap":
		return 1, 3
	}
	return 0, 0
}
