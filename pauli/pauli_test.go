package pauli_test

import (
	"strings"
	"testing"

	"cubit/api"
	"cubit/pauli"
)

const all = 1<<64 - 1

// The functions are these, to the letter.
var (
	_ func(api.Pauli) api.Errno                         = pauli.Check
	_ func(int) (api.Pauli, api.Errno)                  = pauli.Eye
	_ func(int, int, byte) (api.Pauli, api.Errno)       = pauli.One
	_ func(api.Pauli, api.Pauli) (api.Pauli, api.Errno) = pauli.Mul
	_ func(api.Pauli, api.Pauli) (bool, api.Errno)      = pauli.Commute
	_ func(api.Pauli) (int, api.Errno)                  = pauli.Weight
	_ func(api.Pauli) (api.Pauli, api.Errno)            = pauli.Adjoint
	_ func(api.Pauli) (string, api.Errno)               = pauli.Text
	_ func(string) (api.Pauli, api.Errno)               = pauli.Parse
)

// An answer is a string or an error.
type answer struct {
	p api.Pauli
	e api.Errno
}

func is(p api.Pauli, e api.Errno) answer { return answer{p, e} }

// of is the string with these fields, taken.
func of(n int, x, z uint64, phase int) answer {
	return answer{api.Pauli{N: n, X: x, Z: z, Phase: phase}, api.OK}
}

// no is the answer beside an error.
func no(e api.Errno) answer { return answer{api.Pauli{}, e} }

// The strings of the examples, by their fields: the tests of products don't lean on Parse.
var (
	oneX = api.Pauli{N: 1, X: 1}
	oneY = api.Pauli{N: 1, X: 1, Z: 1}
	oneZ = api.Pauli{N: 1, Z: 1}
)

func TestExamplesOfStrings(t *testing.T) {
	for _, c := range []struct {
		name      string
		got, want answer
	}{
		{"Mul(X, Y)", is(pauli.Mul(oneX, oneY)), of(1, 0, 1, 1)},
		{"Mul(Y, X)", is(pauli.Mul(oneY, oneX)), of(1, 0, 1, 3)},
		{"Mul(Y, Y)", is(pauli.Mul(oneY, oneY)), of(1, 0, 0, 0)},
		{"Mul(Y, Z)", is(pauli.Mul(oneY, oneZ)), of(1, 1, 0, 1)},
		{"Mul(Z, Y)", is(pauli.Mul(oneZ, oneY)), of(1, 1, 0, 3)},
		{"Mul(Z, X)", is(pauli.Mul(oneZ, oneX)), of(1, 1, 1, 1)},
		{"Mul(X, Z)", is(pauli.Mul(oneX, oneZ)), of(1, 1, 1, 3)},
		{"Mul(XZ, ZZ)", is(pauli.Mul(api.Pauli{N: 2, X: 2, Z: 1}, api.Pauli{N: 2, Z: 3})), of(2, 2, 2, 3)},
		{"Mul of nothing", is(pauli.Mul(api.Pauli{}, api.Pauli{})), of(0, 0, 0, 0)},
		{"Mul of i and -i on no qubit", is(pauli.Mul(api.Pauli{Phase: 1}, api.Pauli{Phase: 3})), of(0, 0, 0, 0)},
		{"Mul of -i and -i on no qubit", is(pauli.Mul(api.Pauli{Phase: 3}, api.Pauli{Phase: 3})), of(0, 0, 0, 2)},
		{"Mul of 64 X and 64 Z", is(pauli.Mul(api.Pauli{N: 64, X: all}, api.Pauli{N: 64, Z: all})), of(64, all, all, 0)},
		{"Mul of 63 X and 63 Z", is(pauli.Mul(api.Pauli{N: 63, X: all >> 1}, api.Pauli{N: 63, Z: all >> 1})), of(63, all>>1, all>>1, 1)},
		{"Mul of 64 Y and 64 Y", is(pauli.Mul(api.Pauli{N: 64, X: all, Z: all}, api.Pauli{N: 64, X: all, Z: all})), of(64, 0, 0, 0)},
		{"Mul of X and Z on the 64th qubit", is(pauli.Mul(api.Pauli{N: 64, X: 1 << 63}, api.Pauli{N: 64, Z: 1 << 63})), of(64, 1<<63, 1<<63, 3)},
		{"Adjoint(+iX)", is(pauli.Adjoint(api.Pauli{N: 1, X: 1, Phase: 1})), of(1, 1, 0, 3)},
		{"Adjoint(-iX)", is(pauli.Adjoint(api.Pauli{N: 1, X: 1, Phase: 3})), of(1, 1, 0, 1)},
		{"Adjoint(-Y)", is(pauli.Adjoint(api.Pauli{N: 1, X: 1, Z: 1, Phase: 2})), of(1, 1, 1, 2)},
		{"Adjoint(Y)", is(pauli.Adjoint(oneY)), of(1, 1, 1, 0)},
		{"Adjoint of -i on no qubit", is(pauli.Adjoint(api.Pauli{Phase: 3})), of(0, 0, 0, 1)},
		{"Adjoint of 64 Y", is(pauli.Adjoint(api.Pauli{N: 64, X: all, Z: all, Phase: 1})), of(64, all, all, 3)},
		{"One(2, 1, Y)", is(pauli.One(2, 1, 'Y')), of(2, 2, 2, 0)},
		{"One(2, 0, Y)", is(pauli.One(2, 0, 'Y')), of(2, 1, 1, 0)},
		{"One(2, 1, X)", is(pauli.One(2, 1, 'X')), of(2, 2, 0, 0)},
		{"One(2, 1, Z)", is(pauli.One(2, 1, 'Z')), of(2, 0, 2, 0)},
		{"One(2, 2, X)", is(pauli.One(2, 2, 'X')), no(api.ErrArg)},
		{"One(64, 63, X)", is(pauli.One(64, 63, 'X')), of(64, 1<<63, 0, 0)},
		{"One(64, 63, Z)", is(pauli.One(64, 63, 'Z')), of(64, 0, 1<<63, 0)},
		{"One(64, 0, Y)", is(pauli.One(64, 0, 'Y')), of(64, 1, 1, 0)},
		{"Eye(0)", is(pauli.Eye(0)), of(0, 0, 0, 0)},
		{"Eye(64)", is(pauli.Eye(64)), of(64, 0, 0, 0)},
	} {
		if c.got != c.want {
			t.Errorf("%s: %+v, not %+v", c.name, c.got, c.want)
		}
	}
}

func TestExamplesOfCommute(t *testing.T) {
	for _, c := range []struct {
		name string
		a, b api.Pauli
		want bool
	}{
		{"XX, ZZ", api.Pauli{N: 2, X: 3}, api.Pauli{N: 2, Z: 3}, true},
		{"XI, ZZ", api.Pauli{N: 2, X: 2}, api.Pauli{N: 2, Z: 3}, false},
		{"XY, YX", api.Pauli{N: 2, X: 3, Z: 1}, api.Pauli{N: 2, X: 3, Z: 2}, true},
		{"XYZ, YZX", api.Pauli{N: 3, X: 6, Z: 3}, api.Pauli{N: 3, X: 5, Z: 6}, false},
		{"X, X", oneX, oneX, true},
		{"X, Y", oneX, oneY, false},
		{"Y, Z", oneY, oneZ, false},
		{"Z, X", oneZ, oneX, false},
		{"i and -1 on no qubit", api.Pauli{Phase: 1}, api.Pauli{Phase: 2}, true},
		{"64 X, 64 Z", api.Pauli{N: 64, X: all}, api.Pauli{N: 64, Z: all}, true},
		{"64 X, 63 Z", api.Pauli{N: 64, X: all}, api.Pauli{N: 64, Z: all - 1}, false},
		{"64 X, Z on the highest", api.Pauli{N: 64, X: all}, api.Pauli{N: 64, Z: 1 << 63}, false},
	} {
		if yes, e := pauli.Commute(c.a, c.b); yes != c.want || e != api.OK {
			t.Errorf("Commute(%s): %v, %d", c.name, yes, e)
		}
	}
}

func TestExamplesOfWeight(t *testing.T) {
	for _, c := range []struct {
		name string
		a    api.Pauli
		want int
	}{
		{"-XIY", api.Pauli{N: 3, X: 5, Z: 1, Phase: 2}, 2},
		{"nothing", api.Pauli{}, 0},
		{"-i on no qubit", api.Pauli{Phase: 3}, 0},
		{"III", api.Pauli{N: 3}, 0},
		{"XYZ", api.Pauli{N: 3, X: 6, Z: 3}, 3},
		{"64 Y", api.Pauli{N: 64, X: all, Z: all}, 64},
		{"32 X and 32 Z", api.Pauli{N: 64, X: all ^ all>>32, Z: all >> 32}, 64},
		{"64 I", api.Pauli{N: 64, Phase: 1}, 0},
	} {
		if got, e := pauli.Weight(c.a); got != c.want || e != api.OK {
			t.Errorf("Weight(%s): %d, %d, not %d", c.name, got, e, c.want)
		}
	}
}

// Every place of every length, with every kind.
func TestOneAndEyeEverywhere(t *testing.T) {
	for n := range 65 {
		if got := is(pauli.Eye(n)); got != of(n, 0, 0, 0) {
			t.Errorf("Eye(%d): %+v", n, got)
		}
		for qubit := range n {
			bit := worth(qubit)
			for _, c := range []struct {
				kind byte
				x, z uint64
			}{{'X', bit, 0}, {'Y', bit, bit}, {'Z', 0, bit}} {
				if got := is(pauli.One(n, qubit, c.kind)); got != of(n, c.x, c.z, 0) {
					t.Errorf("One(%d, %d, %c): %+v", n, qubit, c.kind, got)
				}
			}
		}
	}
}

// worth is 2^j by doubling.
func worth(j int) uint64 {
	x := uint64(1)
	for range j {
		x += x
	}
	return x
}

func TestExamplesOfTexts(t *testing.T) {
	for _, c := range []struct {
		p    api.Pauli
		want string
	}{
		{api.Pauli{N: 3, X: 1, Z: 4}, "+ZIX"},
		{api.Pauli{}, "+"},
		{api.Pauli{Phase: 1}, "+i"},
		{api.Pauli{Phase: 2}, "-"},
		{api.Pauli{Phase: 3}, "-i"},
		{api.Pauli{N: 2, X: 2, Z: 2}, "+YI"},
		{api.Pauli{N: 3, X: 5, Z: 1, Phase: 3}, "-iXIY"},
		{api.Pauli{N: 64, Z: all, Phase: 2}, "-" + strings.Repeat("Z", 64)},
		{api.Pauli{N: 64, X: 1 << 63, Z: 1, Phase: 1}, "+iX" + strings.Repeat("I", 62) + "Z"},
		{api.Pauli{N: 64}, "+" + strings.Repeat("I", 64)},
	} {
		if got, e := pauli.Text(c.p); got != c.want || e != api.OK {
			t.Errorf("Text(%+v): %q, %d, not %q", c.p, got, e, c.want)
		}
	}
	for _, c := range []struct {
		s    string
		want answer
	}{
		{"i", of(0, 0, 0, 1)},
		{"ZZ", of(2, 0, 3, 0)},
		{"+ X", no(api.ErrPauli)},
		{"", of(0, 0, 0, 0)},
		{"+", of(0, 0, 0, 0)},
		{"-", of(0, 0, 0, 2)},
		{"+i", of(0, 0, 0, 1)},
		{"-i", of(0, 0, 0, 3)},
		{"X", of(1, 1, 0, 0)},
		{"+X", of(1, 1, 0, 0)},
		{"-X", of(1, 1, 0, 2)},
		{"iX", of(1, 1, 0, 1)},
		{"+iX", of(1, 1, 0, 1)},
		{"-iX", of(1, 1, 0, 3)},
		{"iI", of(1, 0, 0, 1)},
		{"I", of(1, 0, 0, 0)},
		{"IXYZ", of(4, 6, 3, 0)},
		{"ZYXI", of(4, 6, 12, 0)},
		{strings.Repeat("Y", 64), of(64, all, all, 0)},
		{"-i" + strings.Repeat("X", 64), of(64, all, 0, 3)},
		{strings.Repeat("X", 65), no(api.ErrLong)},
	} {
		if got := is(pauli.Parse(c.s)); got != c.want {
			t.Errorf("Parse(%q): %+v, not %+v", c.s, got, c.want)
		}
	}
}
