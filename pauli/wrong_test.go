package pauli_test

import (
	"math"
	"testing"

	"cubit/api"
	"cubit/pauli"
)

// wrongRows are numbers of qubits that there are no strings on.
var wrongRows = []int{-1, -2, -64, 65, 66, 128, 1 << 30, math.MaxInt, math.MinInt, math.MaxInt32, math.MinInt32}

// wrongStrings are no Pauli strings: each is wrong by one thing, the last ones by several.
func wrongStrings() []api.Pauli {
	var l []api.Pauli
	for _, n := range wrongRows {
		l = append(l, api.Pauli{N: n})
	}
	for _, phase := range []int{-1, -2, -3, -4, 4, 5, 7, 8, 256, math.MaxInt, math.MinInt} {
		l = append(l, api.Pauli{Phase: phase}, api.Pauli{N: 64, X: all, Phase: phase}, api.Pauli{N: 2, Z: 3, Phase: phase})
	}
	for n := range 64 {
		l = append(l, api.Pauli{N: n, X: 1 << n}, api.Pauli{N: n, Z: 1 << n}, api.Pauli{N: n, X: 1 << 63}, api.Pauli{N: n, Z: 1 << 63}, api.Pauli{N: n, X: all, Z: all}, api.Pauli{N: n, X: 1 << n, Z: 1 << n})
	}
	return append(l, api.Pauli{N: 65, Phase: 4}, api.Pauli{N: -1, X: 1, Z: 1, Phase: -1}, api.Pauli{N: 65, X: all, Z: all}, api.Pauli{N: math.MinInt, X: all, Z: all, Phase: math.MinInt}, api.Pauli{N: 1, X: 2, Phase: 9})
}

// edgeStrings are just not refused.
func edgeStrings() []api.Pauli {
	var l []api.Pauli
	for n := range 65 {
		full := worth(n) - 1
		for phase := range 4 {
			l = append(l, api.Pauli{N: n, X: full, Z: full, Phase: phase}, api.Pauli{N: n, X: full, Phase: phase}, api.Pauli{N: n, Z: full, Phase: phase}, api.Pauli{N: n, Phase: phase})
		}
	}
	return l
}

func TestCheck(t *testing.T) {
	for _, p := range wrongStrings() {
		if e := pauli.Check(p); e != api.ErrPauli {
			t.Errorf("Check(%+v): %d", p, e)
		}
	}
	for _, p := range edgeStrings() {
		if e := pauli.Check(p); e != api.OK {
			t.Errorf("Check(%+v): %d", p, e)
		}
	}
}

func TestWrongStringsAreRefused(t *testing.T) {
	for _, p := range wrongStrings() {
		if n, e := pauli.Weight(p); n != 0 || e != api.ErrPauli {
			t.Errorf("Weight(%+v): %d, %d", p, n, e)
		}
		if got := is(pauli.Adjoint(p)); got != no(api.ErrPauli) {
			t.Errorf("Adjoint(%+v): %+v", p, got)
		}
		if s, e := pauli.Text(p); s != "" || e != api.ErrPauli {
			t.Errorf("Text(%+v): %q, %d", p, s, e)
		}
	}
}

// refused tells whether Mul and Commute refuse two strings so, both ways round.
func refused(t *testing.T, a, b api.Pauli, want api.Errno) {
	t.Helper()
	for range 2 {
		if got := is(pauli.Mul(a, b)); got != no(want) {
			t.Errorf("Mul(%+v, %+v): %+v, not %d", a, b, got, want)
		}
		if yes, e := pauli.Commute(a, b); yes || e != want {
			t.Errorf("Commute(%+v, %+v): %v, %d, not %d", a, b, yes, e, want)
		}
		a, b = b, a
	}
}

// A wrong string is told ahead of unlike numbers of qubits, whichever of the two it is.
func TestWrongOfTwo(t *testing.T) {
	for _, p := range wrongStrings() {
		for _, q := range []api.Pauli{{}, oneY, {N: 2, X: 3}, {N: 64, X: all, Z: all, Phase: 3}} {
			refused(t, p, q, api.ErrPauli)
		}
		refused(t, p, p, api.ErrPauli)
		refused(t, p, api.Pauli{N: 3, Z: 8}, api.ErrPauli)
		refused(t, p, api.Pauli{N: 65}, api.ErrPauli)
	}
}

func TestUnlikeNumbersOfQubits(t *testing.T) {
	for n := range 65 {
		for m := range n {
			refused(t, api.Pauli{N: n}, api.Pauli{N: m}, api.ErrArg)
			refused(t, api.Pauli{N: n, X: worth(n) - 1, Phase: 1}, api.Pauli{N: m, Z: worth(m) - 1, Phase: 2}, api.ErrArg)
		}
	}
}

func TestEyeRefuses(t *testing.T) {
	for _, n := range wrongRows {
		if got := is(pauli.Eye(n)); got != no(api.ErrArg) {
			t.Errorf("Eye(%d): %+v", n, got)
		}
	}
}

func TestOneRefuses(t *testing.T) {
	for _, n := range wrongRows {
		for _, qubit := range []int{-1, 0, 1, 63, 64, n, n - 1} {
			if got := is(pauli.One(n, qubit, 'X')); got != no(api.ErrArg) {
				t.Errorf("One(%d, %d, X): %+v", n, qubit, got)
			}
		}
	}
	for n := range 65 {
		for _, qubit := range []int{-1, -2, -64, math.MinInt, n, n + 1, n + 64, 64, 65, 1 << 30, math.MaxInt} {
			for _, kind := range []byte("XYZ") {
				if got := is(pauli.One(n, qubit, kind)); got != no(api.ErrArg) {
					t.Errorf("One(%d, %d, %c): %+v", n, qubit, kind, got)
				}
			}
		}
	}
	for kind := range 256 {
		if kind == 'X' || kind == 'Y' || kind == 'Z' {
			continue
		}
		for _, n := range []int{1, 2, 64} {
			if got := is(pauli.One(n, n-1, byte(kind))); got != no(api.ErrArg) {
				t.Errorf("One(%d, %d, byte %d): %+v", n, n-1, kind, got)
			}
		}
	}
}
