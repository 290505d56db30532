package bits

import "cubit/api"

// inside tells whether a number has a bit at this place.
func inside(place int) bool { return place >= 0 && place < width }

// bitAt is x's bit at a place inside.
func bitAt(x uint64, place int) uint64 { return x >> place & 1 }

// arePlaces needs not count them: of more than 64 one is there twice.
func arePlaces(places []int) bool {
	seen := uint64(0)
	for _, p := range places {
		if !inside(p) || bitAt(seen, p) == 1 {
			return false
		}
		seen |= 1 << p
	}
	return true
}

// Pick is the number of x's bits at these places, the first of them lowest.
func Pick(x uint64, places []int) (uint64, api.Errno) {
	if !arePlaces(places) {
		return 0, api.ErrArg
	}
	v := uint64(0)
	for k, p := range places {
		v |= bitAt(x, p) << k
	}
	return v, api.OK
}

// Put is x with v's bits at these places, the lowest at the first of them.
func Put(x uint64, places []int, v uint64) (uint64, api.Errno) {
	if !arePlaces(places) || v>>len(places) != 0 {
		return 0, api.ErrArg
	}
	for k, p := range places {
		x = x&^(1<<p) | bitAt(v, k)<<p
	}
	return x, api.OK
}

// Open is x with this bit put in at a place, and the bits from there on moved up by one.
func Open(x uint64, at int, bit int) (uint64, api.Errno) {
	if !inside(at) || bit != 0 && bit != 1 {
		return 0, api.ErrArg
	}
	if bitAt(x, width-1) == 1 {
		return 0, api.ErrLong
	}
	above, below := split(x, at)
	return above<<1<<at | uint64(bit)<<at | below, api.OK
}

// Close is x without its bit at a place, the bits above it moved down by one; and that bit.
func Close(x uint64, at int) (uint64, int, api.Errno) {
	if !inside(at) {
		return 0, 0, api.ErrArg
	}
	above, below := split(x, at)
	return above>>1<<at | below, int(above & 1), api.OK
}

// split is what x has from a place on, moved down to 0, and what it has below that place.
func split(x uint64, at int) (above, below uint64) {
	return x >> at, x & (1<<at - 1)
}

// Swap is x with two bits exchanged: both are turned where they differ.
func Swap(x uint64, i, j int) (uint64, api.Errno) {
	if !inside(i) || !inside(j) {
		return 0, api.ErrArg
	}
	differ := bitAt(x, i) ^ bitAt(x, j)
	return x ^ differ<<i ^ differ<<j, api.OK
}
