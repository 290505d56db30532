package tableau_test

import (
	"math"
	"slices"
	"testing"

	"cubit/api"
	"cubit/gate"
	"cubit/tableau"
)

// A wrong is a tableau that isn't right, in one thing.
type wrong struct {
	why string
	a   api.Tableau
}

// wrongRows are those of n qubits, 1 or more, with one thing that is wrong, made of right ones.
func wrongRows(s *source, n int) []wrong {
	var list []wrong
	spoilt := func(why string, change func(a *api.Tableau)) {
		a := s.anyTableau(n)
		change(&a)
		list = append(list, wrong{why, a})
	}
	row := func(why string, change func(p *api.Pauli)) {
		for j := range 2 * n {
			if n <= 3 || j%41 == 0 || j == 2*n-1 {
				spoilt(why, func(a *api.Tableau) { change(&a.Rows[j]) })
			}
		}
	}
	spoilt("no rows", func(a *api.Tableau) { a.Rows = nil })
	spoilt("a row too few", func(a *api.Tableau) { a.Rows = a.Rows[:2*n-1] })
	spoilt("the stabilizers alone", func(a *api.Tableau) { a.Rows = a.Rows[n:] })
	spoilt("a row too many", func(a *api.Tableau) { a.Rows = append(a.Rows, api.Pauli{N: n}) })
	spoilt("twice as many rows", func(a *api.Tableau) { a.Rows = append(a.Rows, a.Rows...) })
	spoilt("N one less", func(a *api.Tableau) { a.N-- })
	spoilt("N one more", func(a *api.Tableau) { a.N++ })
	spoilt("N below 0", func(a *api.Tableau) { a.N = -n })
	spoilt("partners that commute", func(a *api.Tableau) { a.Rows[n-1] = api.Pauli{N: n} })
	spoilt("a stabilizer that is I", func(a *api.Tableau) { a.Rows[n] = api.Pauli{N: n} })
	spoilt("a row that is its partner", func(a *api.Tableau) { a.Rows[0] = a.Rows[n] })
	row("Phase 1", func(p *api.Pauli) { p.Phase = 1 })
	row("Phase 3", func(p *api.Pauli) { p.Phase = 3 })
	row("Phase 4", func(p *api.Pauli) { p.Phase = 4 })
	row("Phase -2", func(p *api.Pauli) { p.Phase = -2 })
	row("a qubit more", func(p *api.Pauli) { p.N++ })
	row("another number of qubits", func(p *api.Pauli) { p.N, p.X, p.Z = n-1, p.X&(1<<(n-1)-1), p.Z&(1<<(n-1)-1) })
	row("qubits below 0", func(p *api.Pauli) { p.N = -1 })
	if n < 64 {
		row("an X beyond the qubits", func(p *api.Pauli) { p.X |= 1 << n })
		row("a Z beyond the qubits", func(p *api.Pauli) { p.Z |= 1 << 63 })
	}
	if n > 1 {
		spoilt("stabilizers that don't commute", func(a *api.Tableau) {
			a.Rows[n], a.Rows[0] = a.Rows[0], a.Rows[n]
			a.Rows[n+1] = mulled(a.Rows[n+1], a.Rows[0])
		})
		spoilt("destabilizers that don't commute", func(a *api.Tableau) { a.Rows[1] = mulled(a.Rows[1], a.Rows[n]) })
		spoilt("a destabilizer and another's partner", func(a *api.Tableau) { a.Rows[n+1] = mulled(a.Rows[n+1], a.Rows[n]) })
		spoilt("partners exchanged", func(a *api.Tableau) { a.Rows[n], a.Rows[n+1] = a.Rows[n+1], a.Rows[n] })
		spoilt("a stabilizer twice", func(a *api.Tableau) { a.Rows[n+1] = a.Rows[n] })
	}
	return list
}

// mulled is the product of two strings, with the Phase made even.
func mulled(p, q api.Pauli) api.Pauli {
	w := wordOf(p).mul(wordOf(q))
	w.power &= 2
	return w.pauli()
}

// wrongTableaus are such of several numbers of qubits, and such with numbers of qubits that there aren't.
func wrongTableaus() []wrong {
	s := source(41)
	var list []wrong
	for _, n := range []int{1, 2, 3, 7, 63, 64} {
		list = append(list, wrongRows(&s, n)...)
	}
	list = append(list,
		wrong{"rows of no qubits", api.Tableau{Rows: []api.Pauli{{}, {}}}},
		wrong{"one row of no qubits", api.Tableau{Rows: []api.Pauli{{}}}},
	)
	for _, n := range []int{-1, -2, -64, math.MinInt, math.MinInt / 2, 65, 66, 1 << 62, math.MaxInt/2 + 1, math.MaxInt} {
		list = append(list, wrong{"a number of qubits that there isn't", api.Tableau{N: n}})
	}
	many := api.Tableau{N: 65}
	for j := range 130 {
		many.Rows = append(many.Rows, api.Pauli{N: 65, X: 1 << (j % 65)})
	}
	return append(list, wrong{"65 qubits", many})
}

// P18.1: Check of what is wrong in one thing.
func TestCheckOfWrongTableaus(t *testing.T) {
	for _, w := range wrongTableaus() {
		if e := tableau.Check(w.a); e != api.ErrTableau || right(w.a) {
			t.Errorf("%s: %d, N %d, rows %v", w.why, e, w.a.N, w.a.Rows)
		}
	}
}

// Rule 8: each call refuses a wrong tableau ahead of all else, and answers nothing beside.
func TestWrongTableausFirst(t *testing.T) {
	good := zero(t, 1)
	for _, w := range wrongTableaus() {
		a := w.a
		for _, name := range []string{"h", "none", "t", "cx"} {
			for _, qubits := range [][]int{{0}, nil, {0, 0}, {-1}, {0, 1}} {
				if b, e := tableau.Apply(a, name, qubits); !none(b) || e != api.ErrTableau {
					t.Fatalf("%s: Apply of %s on %v: %s, %d", w.why, name, qubits, text(b), e)
				}
			}
		}
		for _, q := range []int{0, -1, 64, math.MaxInt} {
			if bit, certain, e := tableau.Certain(a, q); bit != 0 || certain || e != api.ErrTableau {
				t.Fatalf("%s: Certain at %d: %d, %v, %d", w.why, q, bit, certain, e)
			}
			for _, bit := range []int{0, 1, 2, -1} {
				if b, e := tableau.Project(a, q, bit); !none(b) || e != api.ErrTableau {
					t.Fatalf("%s: Project at %d onto %d: %s, %d", w.why, q, bit, text(b), e)
				}
			}
		}
		for _, p := range []api.Pauli{{N: a.N}, {N: 1, Z: 1}, {}, {N: -1}, {N: 1, X: 2}, {N: 1, Phase: 1}, {N: 2}} {
			if v, e := tableau.Value(a, p); v != 0 || e != api.ErrTableau {
				t.Fatalf("%s: Value of %v: %d, %d", w.why, p, v, e)
			}
		}
		for _, pair := range [][2]api.Tableau{{a, good}, {good, a}, {a, a}} {
			if is, e := tableau.Same(pair[0], pair[1]); is || e != api.ErrTableau {
				t.Fatalf("%s: Same: %v, %d", w.why, is, e)
			}
		}
	}
}

// A call of Apply that is refused, or taken.
type call struct {
	n      int
	name   string
	qubits []int
	e      api.Errno
}

// calls have one fault each, and two and more of them at once.
func calls() []call {
	many := make([]int, 1<<16)
	return []call{
		{2, "foo", []int{0}, api.ErrGate},
		{2, "", nil, api.ErrGate},
		{2, "", []int{0}, api.ErrGate},
		{2, "H", []int{0}, api.ErrGate},
		{2, "h ", []int{0}, api.ErrGate},
		{2, "measure", []int{0}, api.ErrGate},
		{2, "foo", []int{-1}, api.ErrGate},
		{2, "foo", []int{1, 1}, api.ErrGate},
		{2, "foo", many, api.ErrGate},
		{0, "foo", nil, api.ErrGate},
		{2, "h", nil, api.ErrArity},
		{2, "h", []int{}, api.ErrArity},
		{2, "h", []int{0, 1}, api.ErrArity},
		{2, "h", []int{5, 5}, api.ErrArity},
		{2, "h", many, api.ErrArity},
		{2, "cx", []int{0}, api.ErrArity},
		{2, "cx", []int{-1}, api.ErrArity},
		{3, "cx", []int{0, 1, 2}, api.ErrArity},
		{2, "swap", []int{0, 0, 0}, api.ErrArity},
		{2, "t", nil, api.ErrArity}, // none of Clifford's
		{2, "t", []int{0, 1}, api.ErrArity},
		{2, "ch", []int{2}, api.ErrArity},
		{2, "ccx", []int{1, 1}, api.ErrArity},
		{3, "ccz", []int{0, 1, 2, 3}, api.ErrArity},
		{0, "h", nil, api.ErrArity},
		{2, "h", []int{-1}, api.ErrIndex},
		{2, "h", []int{2}, api.ErrIndex},
		{2, "h", []int{64}, api.ErrIndex},
		{2, "h", []int{math.MinInt}, api.ErrIndex},
		{2, "h", []int{math.MaxInt}, api.ErrIndex},
		{63, "h", []int{63}, api.ErrIndex},
		{64, "h", []int{64}, api.ErrIndex},
		{0, "h", []int{0}, api.ErrIndex},
		{2, "cx", []int{0, 2}, api.ErrIndex},
		{2, "cx", []int{2, 0}, api.ErrIndex},
		{2, "cx", []int{2, 2}, api.ErrIndex},
		{2, "cx", []int{-1, -1}, api.ErrIndex},
		{1, "cx", []int{0, 1}, api.ErrIndex},
		{2, "t", []int{2}, api.ErrIndex},
		{2, "cs", []int{3, 3}, api.ErrIndex},
		{2, "ccx", []int{0, 0, 5}, api.ErrIndex},
		{2, "cswap", []int{-1, 1, 1}, api.ErrIndex},
		{2, "cx", []int{0, 0}, api.ErrSame},
		{2, "cz", []int{1, 1}, api.ErrSame},
		{1, "swap", []int{0, 0}, api.ErrSame},
		{64, "iswap", []int{63, 63}, api.ErrSame},
		{2, "ch", []int{1, 1}, api.ErrSame},
		{2, "ccx", []int{0, 1, 0}, api.ErrSame},
		{2, "ccz", []int{0, 0, 1}, api.ErrSame},
		{2, "cswap", []int{1, 0, 0}, api.ErrSame},
		{1, "ccx", []int{0, 0, 0}, api.ErrSame},
		{1, "t", []int{0}, api.ErrClifford},
		{2, "tdg", []int{1}, api.ErrClifford},
		{2, "ch", []int{0, 1}, api.ErrClifford},
		{2, "cs", []int{1, 0}, api.ErrClifford},
		{2, "csdg", []int{0, 1}, api.ErrClifford},
		{3, "ccx", []int{0, 1, 2}, api.ErrClifford},
		{3, "ccz", []int{2, 1, 0}, api.ErrClifford},
		{64, "cswap", []int{63, 0, 31}, api.ErrClifford},
		{1, "h", []int{0}, api.OK},
		{2, "cx", []int{1, 0}, api.OK},
		{64, "v", []int{63}, api.OK},
		{64, "iswapdg", []int{63, 0}, api.OK},
	}
}

// P18.1: Apply's errors, in their order; beside them there is nothing.
func TestWrongGates(t *testing.T) {
	for _, c := range calls() {
		b, e := tableau.Apply(zero(t, c.n), c.name, c.qubits)
		if e != c.e || e != api.OK && !none(b) || e == api.OK && b.N != c.n {
			t.Errorf("%q on %d qubits of %d: %s, %d, not %d", c.name, len(c.qubits), c.n, text(b), e, c.e)
		}
	}
}

// P18.1: each name, with each number of qubits, right ones and wrong ones, as the list of errors says.
func TestEachNameWithEachList(t *testing.T) {
	names := append(gate.Names(), "", "foo", "CX", "cx ")
	for n := range 4 {
		a := zero(t, n)
		for length := range 5 {
			for k := range 1 << (3 * length) {
				list := make([]int, length)
				for j := range list {
					list[j] = k>>(3*j)&7 - 2
				}
				if length > 2 && k%7 != 0 {
					continue
				}
				for _, name := range names {
					if _, e := tableau.Apply(a, name, list); e != wantedError(n, name, list) {
						t.Fatalf("%q on %v of %d qubits: %d, not %d", name, list, n, e, wantedError(n, name, list))
					}
				}
			}
		}
	}
}

// wantedError is that of Apply by the chapter's list.
func wantedError(n int, name string, qubits []int) api.Errno {
	known := slices.Contains(gate.Names(), name)
	beyond := slices.ContainsFunc(qubits, func(q int) bool { return q < 0 || q >= n })
	sorted := slices.Sorted(slices.Values(qubits))
	switch {
	case !known:
		return api.ErrGate
	case len(qubits) != gate.Arity(name):
		return api.ErrArity
	case beyond:
		return api.ErrIndex
	case len(slices.Compact(sorted)) < len(qubits):
		return api.ErrSame
	case slices.Contains([]string{"t", "tdg", "ch", "cs", "csdg", "ccx", "ccz", "cswap"}, name):
		return api.ErrClifford
	}
	return api.OK
}

// P18.1: Certain and Project at qubits that there are and that there aren't, onto bits and onto what is none: the qubit is looked at first, then the bit, then the outcome.
func TestPlaces(t *testing.T) {
	s := source(42)
	for _, n := range []int{0, 1, 2, 5, 63, 64} {
		for _, a := range []api.Tableau{zero(t, n), tableauOf(n, s.rows(n))} {
			for _, q := range beside(n) {
				if q < n && q >= 0 {
					continue
				}
				if bit, certain, e := tableau.Certain(a, q); bit != 0 || certain || e != api.ErrIndex {
					t.Errorf("Certain of %d qubits at %d: %d, %v, %d", n, q, bit, certain, e)
				}
				for _, bit := range append([]int{0, 1}, noBits...) {
					if b, e := tableau.Project(a, q, bit); !none(b) || e != api.ErrIndex {
						t.Errorf("Project of %d qubits at %d onto %d: %s, %d", n, q, bit, text(b), e)
					}
				}
			}
			for q := range n {
				for _, bit := range noBits {
					if b, e := tableau.Project(a, q, bit); !none(b) || e != api.ErrArg {
						t.Errorf("Project of %d qubits at %d onto %d: %s, %d", n, q, bit, text(b), e)
					}
				}
			}
		}
	}
}

// P18.1: Value of wrong strings, of odd Phases and of other numbers of qubits: what pauli.Check refuses comes first.
func TestValueOfWrongStrings(t *testing.T) {
	s := source(43)
	for _, n := range []int{0, 1, 2, 5, 63, 64} {
		for _, a := range []api.Tableau{zero(t, n), tableauOf(n, s.rows(n))} {
			for _, c := range []struct {
				p api.Pauli
				e api.Errno
			}{
				{api.Pauli{N: -1}, api.ErrPauli},
				{api.Pauli{N: 65}, api.ErrPauli},
				{api.Pauli{N: math.MinInt}, api.ErrPauli},
				{api.Pauli{N: math.MaxInt}, api.ErrPauli},
				{api.Pauli{N: n, Phase: -1}, api.ErrPauli},
				{api.Pauli{N: n, Phase: -2}, api.ErrPauli},
				{api.Pauli{N: n, Phase: 4}, api.ErrPauli},
				{api.Pauli{N: n, Phase: math.MinInt}, api.ErrPauli},
				{api.Pauli{N: n, Phase: math.MaxInt}, api.ErrPauli},
				{api.Pauli{N: 3, X: 8}, api.ErrPauli},
				{api.Pauli{N: 3, Z: 1 << 63}, api.ErrPauli},
				{api.Pauli{N: 3, Z: 8, Phase: 1}, api.ErrPauli},
				{api.Pauli{N: 0, X: 1}, api.ErrPauli},
				{api.Pauli{N: n, Phase: 1}, api.ErrArg},
				{api.Pauli{N: n, Phase: 3}, api.ErrArg},
				{api.Pauli{N: 3}, api.ErrArg}, // no tableau here has so many
				{api.Pauli{N: 3, X: 5, Z: 1, Phase: 2}, api.ErrArg},
				{api.Pauli{N: 62}, api.ErrArg},
				{api.Pauli{N: 62, Phase: 3}, api.ErrArg},
				{api.Pauli{N: n}, api.OK},
				{api.Pauli{N: n, Phase: 2}, api.OK},
			} {
				if v, e := tableau.Value(a, c.p); e != c.e || e != api.OK && v != 0 {
					t.Errorf("Value of %v in %d qubits: %d, %d, not %d", c.p, n, v, e, c.e)
				}
			}
			for _, row := range a.Rows {
				for _, phase := range []int{1, 3} {
					row.Phase = phase
					if v, e := tableau.Value(a, row); v != 0 || e != api.ErrArg {
						t.Errorf("Value of a row with Phase %d: %d, %d", phase, v, e)
					}
				}
			}
			for _, more := range []int{n - 1, n + 1} {
				if p := (api.Pauli{N: more}); more >= 0 && more <= 64 {
					if v, e := tableau.Value(a, p); v != 0 || e != api.ErrArg {
						t.Errorf("Value of %v in %d qubits: %d, %d", p, n, v, e)
					}
				}
			}
		}
	}
}

// P18.1: Same of wrong tableaus with unlike numbers of qubits: the error comes ahead.
func TestSameOfWrongTableaus(t *testing.T) {
	for _, n := range []int{0, 1, 2, 64} {
		for _, b := range []api.Tableau{{N: -1}, {N: 65}, {N: n + 1}, {N: 3, Rows: zero(t, 2).Rows}} {
			a := zero(t, n)
			is, e := tableau.Same(a, b)
			back, f := tableau.Same(b, a)
			if is || back || e != api.ErrTableau || f != api.ErrTableau {
				t.Errorf("Same of %d qubits and N %d: %v, %d, %v, %d", n, b.N, is, e, back, f)
			}
		}
	}
}
