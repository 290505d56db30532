package cut

import (
	"slices"

	"cubit/api"
	"cubit/bits"
	"cubit/ring"
)

// splits holds the state against the pivot. It goes on behind the first place that shows that there is no product: a later one may be refused.
func splits(s api.State, mask, pivot uint64) (bool, api.Errno) {
	yes := true
	for x := range uint64(len(s.Amps)) {
		if apart := x ^ pivot; apart&mask == 0 || apart&^mask == 0 {
			continue // both products would be one and the same, which refuses nothing
		}
		same, e := crossed(s.Amps, x, pivot, mask)
		if e != api.OK {
			return false, e
		}
		yes = yes && same
	}
	return yes, api.OK
}

// crossed tells whether two elements have the same product as those of the two basis states that exchange the qubits of mask.
func crossed(list []api.Ring, x, y, mask uint64) (bool, api.Errno) {
	straight, e := ring.Mul(list[x], list[y])
	if e != api.OK {
		return false, e
	}
	across, e := ring.Mul(list[x&mask|y&^mask], list[y&mask|x&^mask])
	return straight == across, e
}

// part is the state on the qubits of mask, all others being as in the pivot.
func part(s api.State, mask, pivot uint64) api.State {
	list := make([]api.Ring, 0, 1<<bits.Count(mask))
	for x := range bits.Subsets(mask) {
		list = append(list, s.Amps[x|pivot&^mask])
	}
	return oneForm(api.State{N: bits.Count(mask), K: s.K, Amps: list})
}

// joined is the product ahead of its one form. Subsets of a mask rise, as the numbers that are picked from it do.
func joined(a, b api.State, mask uint64) (api.State, api.Errno) {
	n := a.N + b.N
	inner, outer := slices.Collect(bits.Subsets(mask)), slices.Collect(bits.Subsets(others(n, mask)))
	list := make([]api.Ring, 1<<n)
	for i, u := range inner {
		for j, v := range outer {
			r, e := ring.Mul(a.Amps[i], b.Amps[j])
			if e != api.OK {
				return api.State{}, e
			}
			list[u|v] = r
		}
	}
	return api.State{N: n, K: a.K + b.K, Amps: list}, api.OK
}

// oneForm halves as long as it can. Noughts alone can always be halved, so that their K becomes 0.
func oneForm(s api.State) api.State {
	for s.K > 0 {
		list, ok := halved(s.Amps)
		if !ok {
			break
		}
		s.Amps = list
		s.K--
	}
	return s
}

// halved is each element divided by the square root of 2; false, if one of them can't be.
func halved(list []api.Ring) ([]api.Ring, bool) {
	half := make([]api.Ring, len(list))
	for x, r := range list {
		h, ok, _ := ring.Halve(r)
		if !ok {
			return nil, false
		}
		half[x] = h
	}
	return half, true
}
