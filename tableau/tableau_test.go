package tableau_test

import (
	"math"
	"slices"
	"strings"
	"testing"

	"cubit/api"
	"cubit/pauli"
	"cubit/tableau"
)

// text is the rows of a tableau as package pauli writes them, qubit 0 last.
func text(a api.Tableau) string {
	var list []string
	for _, row := range a.Rows {
		s, e := pauli.Text(row)
		if e != api.OK {
			s = "?"
		}
		list = append(list, s)
	}
	return strings.Join(list, " ")
}

func parse(t *testing.T, s string) api.Pauli {
	t.Helper()
	p, e := pauli.Parse(s)
	if e != api.OK {
		t.Fatalf("%q: %d", s, e)
	}
	return p
}

// rowsOf is a tableau of n qubits with these rows, right or wrong.
func rowsOf(t *testing.T, n int, texts ...string) api.Tableau {
	t.Helper()
	a := api.Tableau{N: n}
	for _, s := range texts {
		a.Rows = append(a.Rows, parse(t, s))
	}
	return a
}

func zero(t *testing.T, n int) api.Tableau {
	t.Helper()
	a, e := tableau.Zero(n)
	if e != api.OK {
		t.Fatalf("Zero(%d): %d", n, e)
	}
	return a
}

func apply(t *testing.T, a api.Tableau, name string, qubits ...int) api.Tableau {
	t.Helper()
	b, e := tableau.Apply(a, name, qubits)
	if e != api.OK {
		t.Fatalf("%s on %v of %s: %d", name, qubits, text(a), e)
	}
	return b
}

func project(t *testing.T, a api.Tableau, qubit, bit int) api.Tableau {
	t.Helper()
	b, e := tableau.Project(a, qubit, bit)
	if e != api.OK {
		t.Fatalf("Project of %s at %d onto %d: %d", text(a), qubit, bit, e)
	}
	return b
}

func value(t *testing.T, a api.Tableau, p api.Pauli) int {
	t.Helper()
	v, e := tableau.Value(a, p)
	if e != api.OK {
		t.Fatalf("Value of %s in %s: %d", wordOf(p).letters, text(a), e)
	}
	return v
}

func same(a, b api.Tableau) bool { return a.N == b.N && slices.Equal(a.Rows, b.Rows) }

// none tells whether it is the zero one, as it is beside an error.
func none(a api.Tableau) bool { return a.N == 0 && len(a.Rows) == 0 }

// isRows asks that a has these rows.
func isRows(t *testing.T, a api.Tableau, texts ...string) {
	t.Helper()
	if want := rowsOf(t, a.N, texts...); !same(a, want) {
		t.Errorf("%s, not %s", text(a), text(want))
	}
}

// isCertain asks for the outcome of a qubit, -1 being none that is certain.
func isCertain(t *testing.T, a api.Tableau, qubit, want int) {
	t.Helper()
	bit, certain, e := tableau.Certain(a, qubit)
	if certain != (want >= 0) || bit != max(want, 0) || e != api.OK {
		t.Errorf("Certain of %s at %d: %d, %v, %d, not %d", text(a), qubit, bit, certain, e, want)
	}
}

// The chapter's examples.
func TestExamples(t *testing.T) {
	a := zero(t, 1)
	isRows(t, a, "X", "Z")
	h := apply(t, a, "h", 0)
	isRows(t, h, "Z", "X")
	isCertain(t, h, 0, -1)
	found := project(t, h, 0, 1)
	isRows(t, found, "X", "-Z")
	isCertain(t, found, 0, 1)

	pair := apply(t, apply(t, zero(t, 2), "h", 0), "cx", 0, 1)
	if got := text(api.Tableau{N: 2, Rows: pair.Rows[2:]}); got != "+XX +ZZ" {
		t.Errorf("the pair's stabilizers: %s", got)
	}
	for s, want := range map[string]int{"YY": -1, "-YY": 1, "XX": 1, "-XX": -1, "ZI": 0, "II": 1, "-II": -1, "IX": 0} {
		if got := value(t, pair, parse(t, s)); got != want {
			t.Errorf("the pair's value of %s: %d, not %d", s, got, want)
		}
	}
	isCertain(t, project(t, pair, 0, 1), 1, 1)
	isCertain(t, project(t, pair, 0, 0), 1, 0)

	x := apply(t, a, "x", 0)
	if got := value(t, x, parse(t, "Z")); got != -1 {
		t.Errorf("Value of Z behind x: %d", got)
	}
	if b, e := tableau.Project(x, 0, 0); !none(b) || e != api.ErrNull {
		t.Errorf("Project behind x onto 0: %s, %d", text(b), e)
	}
	if b, e := tableau.Apply(a, "t", []int{0}); !none(b) || e != api.ErrClifford {
		t.Errorf("t: %s, %d", text(b), e)
	}
	if b, e := tableau.Apply(a, "foo", []int{0}); !none(b) || e != api.ErrGate {
		t.Errorf("foo: %s, %d", text(b), e)
	}
	if e := tableau.Check(rowsOf(t, 1, "X", "X")); e != api.ErrTableau {
		t.Errorf("Check of X, X: %d", e)
	}
}

// P18.1: Zero of each number of qubits that there is, and of those beside them.
func TestZero(t *testing.T) {
	for n := range 65 {
		a := zero(t, n)
		if a.N != n || len(a.Rows) != 2*n {
			t.Fatalf("Zero(%d): N %d, %d rows", n, a.N, len(a.Rows))
		}
		for i := range n {
			if x := (api.Pauli{N: n, X: 1 << i}); a.Rows[i] != x {
				t.Errorf("Zero(%d): destabilizer %d is %v", n, i, a.Rows[i])
			}
			if z := (api.Pauli{N: n, Z: 1 << i}); a.Rows[n+i] != z {
				t.Errorf("Zero(%d): stabilizer %d is %v", n, i, a.Rows[n+i])
			}
			isCertain(t, a, i, 0)
		}
		if e := tableau.Check(a); e != api.OK {
			t.Errorf("Check(Zero(%d)): %d", n, e)
		}
	}
	for _, n := range []int{-1, -2, -64, 65, 66, 128, math.MinInt, math.MaxInt} {
		if a, e := tableau.Zero(n); !none(a) || e != api.ErrArg {
			t.Errorf("Zero(%d): %v, %d", n, a, e)
		}
	}
}

// checked asks Check for what the chapter's words say, and tells that.
func checked(t *testing.T, a api.Tableau) bool {
	t.Helper()
	want := api.ErrTableau
	if right(a) {
		want = api.OK
	}
	if e := tableau.Check(a); e != want {
		t.Fatalf("Check of N %d, %v: %d, not %d", a.N, a.Rows, e, want)
	}
	return want == api.OK
}

// P18.1: Check of all rows of one qubit, with all Phases, and of all rows of two qubits without signs.
func TestCheckOfAllRows(t *testing.T) {
	var ones []api.Pauli
	for k := range 16 {
		ones = append(ones, api.Pauli{N: 1, X: uint64(k & 1), Z: uint64(k >> 1 & 1), Phase: k >> 2})
	}
	count := 0
	for _, d := range ones {
		for _, s := range ones {
			if checked(t, api.Tableau{N: 1, Rows: []api.Pauli{d, s}}) {
				count++
			}
		}
	}
	if count != 6*4 {
		t.Errorf("%d tableaus of one qubit", count)
	}
	count = 0
	all := words(2)
	for k := range 1 << 16 {
		rows := []word{all[k&15], all[k>>4&15], all[k>>8&15], all[k>>12]}
		if checked(t, tableauOf(2, rows)) {
			count++
		}
	}
	if count != 720 {
		t.Errorf("%d tableaus of two qubits, without signs", count)
	}
}

// P18.1: right tableaus of every size, and what becomes of them where one bit, Phase or N of a row is another one.
func TestCheckOfOneOtherThing(t *testing.T) {
	s := source(11)
	counts := map[bool]int{}
	for j := range 1500 {
		n := j % 9
		if j%50 == 0 {
			n = pick(&s, 16, 63, 64)
		}
		a := s.anyTableau(n)
		if !checked(t, a) {
			t.Fatalf("%s isn't right", text(a))
		}
		if n == 0 {
			continue
		}
		row := &a.Rows[s.below(2*n)]
		switch s.below(5) {
		case 0:
			row.X ^= 1 << s.below(64)
		case 1:
			row.Z ^= 1 << s.below(64)
		case 2:
			row.Phase = pick(&s, -2, -1, 0, 1, 2, 3, 4, math.MinInt, math.MaxInt-1)
		case 3:
			row.N = pick(&s, n-1, n+1, 0, -1, 64, 65)
		default:
			*row = a.Rows[s.below(2*n)]
		}
		counts[checked(t, a)]++
	}
	if counts[true] < 50 || counts[false] < 500 {
		t.Errorf("right and wrong: %v", counts)
	}
}

// valued asks Value for what the chapter's words say, and tells that.
func valued(t *testing.T, a api.Tableau, rows []word, w word) int {
	t.Helper()
	got, want := value(t, a, w.pauli()), member(rows[a.N:], w)
	if got != want {
		t.Fatalf("Value of %v in %s: %d, not %d", w, text(a), got, want)
	}
	return want
}

// P18.1: Value of all strings in all tableaus of up to two qubits, with all signs of the stabilizers; what the destabilizers' signs are doesn't matter.
func TestValueOfAllStrings(t *testing.T) {
	for n := range 3 {
		for k, rows := range allRows(n) {
			for mark := range 1 << n {
				rows := signed(rows, mark<<n|k&(1<<n-1))
				a := tableauOf(n, rows)
				all := group(n, rows[n:])
				for _, w := range words(n) {
					for _, w := range []word{w, w.turned(2)} {
						if got, want := value(t, a, w.pauli()), all[w]-all[w.turned(2)]; got != want {
							t.Fatalf("Value of %v in %s: %d, not %d", w, text(a), got, want)
						}
					}
				}
			}
		}
	}
}

// P18.1: Value in greater tableaus, of strings of the group, their negatives, and others.
func TestValue(t *testing.T) {
	s := source(12)
	counts := map[int]int{}
	for j := range 600 {
		n := 3 + j%8
		if j%60 == 0 {
			n = pick(&s, 32, 63, 64)
		}
		a := s.anyTableau(n)
		rows := wordsOf(a)
		for range 10 {
			counts[valued(t, a, rows, s.likely(rows))]++
		}
		for i, w := range rows {
			want := 1
			if i < n {
				want = 0
			}
			if valued(t, a, rows, w) != want || valued(t, a, rows, w.turned(2)) != -want {
				t.Fatalf("row %d of %s", i, text(a))
			}
		}
		if valued(t, a, rows, eye(n)) != 1 || valued(t, a, rows, eye(n).turned(2)) != -1 {
			t.Fatalf("I in %s", text(a))
		}
	}
	if counts[1] < 800 || counts[-1] < 800 || counts[0] < 800 {
		t.Errorf("values: %v", counts)
	}
	point := zero(t, 0)
	if v, w := value(t, point, api.Pauli{}), value(t, point, api.Pauli{Phase: 2}); v != 1 || w != -1 {
		t.Errorf("no qubits: %d, %d", v, w)
	}
}

// sameAs asks Same, both ways round.
func sameAs(t *testing.T, a, b api.Tableau, want bool) {
	t.Helper()
	is, e := tableau.Same(a, b)
	back, f := tableau.Same(b, a)
	if is != want || back != want || e != api.OK || f != api.OK {
		t.Fatalf("Same of %s and %s: %v, %d, and the other way round %v, %d, not %v", text(a), text(b), is, e, back, f, want)
	}
}

// P18.6: all tableaus of two qubits, held against some of them: Same hangs on the group alone.
func TestSameOfAllTableaus(t *testing.T) {
	for n := range 3 {
		all := allRows(n)
		counts := map[bool]int{}
		for k, rows := range all {
			rows := signed(rows, k*7)
			a := tableauOf(n, rows)
			mine := group(n, rows[n:])
			for step := range 16 {
				others := signed(all[(k+step*45)%len(all)], k*7^step*5)
				want := true
				for _, w := range others[n:] {
					want = want && mine[w] == 1
				}
				counts[want]++
				sameAs(t, a, tableauOf(n, others), want)
			}
		}
		if counts[true] == 0 || n > 0 && counts[false] == 0 {
			t.Errorf("%d qubits: same and not: %v", n, counts)
		}
	}
}

// P18.6: rows multiplied into others, with the partners the other way round, change nothing; a sign, a row or a qubit more does.
func TestSame(t *testing.T) {
	s := source(13)
	for j := range 400 {
		n := 1 + j%9
		if j%80 == 0 {
			n = pick(&s, 40, 63, 64)
		}
		a := s.anyTableau(n)
		sameAs(t, a, a, true)
		rows := wordsOf(a)
		for range 2 * n {
			s.mix(rows)
		}
		b := tableauOf(n, rows)
		if !right(b) {
			t.Fatalf("%s isn't right", text(b))
		}
		sameAs(t, a, b, true)
		at := s.below(n)
		turnedOne := slices.Clone(rows)
		turnedOne[n+at] = turnedOne[n+at].turned(2)
		sameAs(t, a, tableauOf(n, turnedOne), false)
		turnedOther := slices.Clone(rows)
		turnedOther[at] = turnedOther[at].turned(2) // a destabilizer's sign
		sameAs(t, a, tableauOf(n, turnedOther), true)
		exchanged := slices.Clone(rows)
		exchanged[at], exchanged[n+at] = exchanged[n+at], exchanged[at]
		sameAs(t, a, tableauOf(n, exchanged), false)
	}
}

// P18.6: one stabilizer multiplied into another, as the promise says it.
func TestSameByOneStep(t *testing.T) {
	s := source(14)
	for range 300 {
		n := 2 + s.below(6)
		rows := s.rows(n)
		a := tableauOf(n, rows)
		i, j := s.below(n), s.below(n)
		if i == j {
			continue
		}
		rows[n+i] = rows[n+i].mul(rows[n+j])
		rows[j] = rows[j].mul(rows[i])
		b := tableauOf(n, rows)
		if e := tableau.Check(b); e != api.OK {
			t.Fatalf("%s: %d", text(b), e)
		}
		sameAs(t, a, b, true)
	}
}

// P18.1: other numbers of qubits are never the same.
func TestSameOfOtherSizes(t *testing.T) {
	sizes := []int{0, 1, 2, 3, 63, 64}
	for _, n := range sizes {
		for _, m := range sizes {
			sameAs(t, zero(t, n), zero(t, m), n == m)
		}
	}
}
