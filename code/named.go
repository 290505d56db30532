package code

import (
	"slices"

	"cubit/api"
	"cubit/pauli"
)

// Named is the code of a name: bit3, phase3, five, steane.
func Named(name string) (api.Code, api.Errno) {
	switch name {
	case "bit3":
		return written("XXX", "ZII", "ZZI", "IZZ"), api.OK
	case "phase3":
		return written("ZZZ", "XII", "XXI", "IXX"), api.OK
	case "five":
		return written("XXXXX", "ZZZZZ", "XZZXI", "IXZZX", "XIXZZ", "ZXIXZ"), api.OK
	case "steane":
		return written("XXXXXXX", "ZZZZZZZ", "IIIXXXX", "IXXIIXX", "XIXIXIX", "IIIZZZZ", "IZZIIZZ", "ZIZIZIZ"), api.OK
	}
	return api.Code{}, api.ErrArg
}

// written is the code of one logical qubit with these strings.
func written(x, z string, gens ...string) api.Code {
	c := api.Code{N: len(x), X: []api.Pauli{spelled(x)}, Z: []api.Pauli{spelled(z)}}
	for _, g := range gens {
		c.Gens = append(c.Gens, spelled(g))
	}
	return c
}

// spelled is a string written with qubit 0 as the first letter, which is the last one for package pauli.
func spelled(letters string) api.Pauli {
	turned := []byte(letters)
	slices.Reverse(turned)
	p, _ := pauli.Parse(string(turned))
	return p
}
