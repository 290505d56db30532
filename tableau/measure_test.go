package tableau_test

import (
	"slices"
	"testing"

	"cubit/api"
	"cubit/tableau"
)

// measured asks Certain and Project at a qubit for what the chapter's words say, and tells which outcome is certain, or -1.
func measured(t *testing.T, a api.Tableau, qubit int) int {
	t.Helper()
	rows := wordsOf(a)
	want, certain := outcome(a.N, rows, qubit)
	if !certain {
		want = -1
	}
	isCertain(t, a, qubit, want)
	for bit := range 2 {
		next, fault := part(a.N, rows, qubit, bit)
		b, e := tableau.Project(a, qubit, bit)
		if e != fault {
			t.Fatalf("Project of %s at %d onto %d: %d, not %d", text(a), qubit, bit, e, fault)
		}
		if fault != api.OK && !none(b) || fault == api.OK && !same(b, tableauOf(a.N, next)) {
			t.Fatalf("Project of %s at %d onto %d: %s, not %v", text(a), qubit, bit, text(b), next)
		}
	}
	return want
}

// P18.1: Certain and Project in all tableaus of up to two qubits, with all signs.
func TestMeasuringAllTableaus(t *testing.T) {
	for n := range 3 {
		counts := map[int]int{}
		for _, rows := range allRows(n) {
			for mark := range 1 << (2 * n) {
				a := tableauOf(n, signed(rows, mark))
				for q := range n {
					counts[measured(t, a, q)]++
				}
			}
		}
		if n > 0 && (counts[0] == 0 || counts[0] != counts[1] || counts[-1] <= counts[0]) {
			t.Errorf("outcomes of %d qubits: %v", n, counts)
		}
	}
}

// P18.1: so in greater tableaus, at every qubit.
func TestMeasuring(t *testing.T) {
	s := source(31)
	counts := map[int]int{}
	for j := range 400 {
		a := s.anyTableau(3 + j%7)
		for q := range a.N {
			counts[measured(t, a, q)]++
		}
	}
	for _, n := range []int{63, 64} {
		a := tableauOf(n, s.partly(n))
		for _, q := range []int{0, 1, n / 2, n - 2, n - 1} {
			counts[measured(t, a, q)]++
		}
		a = tableauOf(n, s.rows(n))
		for _, q := range []int{0, n - 1} {
			counts[measured(t, a, q)]++
		}
	}
	if counts[0] < 100 || counts[1] < 100 || counts[-1] < 500 {
		t.Errorf("outcomes: %v", counts)
	}
}

// P18.1: each row of Project by hand.
func TestProjectByHand(t *testing.T) {
	three := apply(t, apply(t, apply(t, zero(t, 3), "h", 0), "cx", 0, 1), "cx", 1, 2)
	isRows(t, three, "IIZ", "XXI", "XII", "XXX", "IZZ", "ZZI")
	isRows(t, project(t, three, 0, 0), "XXX", "XXI", "XII", "IIZ", "IZZ", "ZZI")
	isRows(t, project(t, three, 1, 1), "XXX", "IIX", "XII", "-IZI", "IZZ", "ZZI")
	isRows(t, project(t, three, 2, 1), "XXX", "IIX", "IXX", "-ZII", "IZZ", "ZZI")

	each := rowsOf(t, 2, "-ZI", "-IZ", "XZ", "ZX") // one stabilizer flips qubit 1, the other one qubit 0
	isRows(t, project(t, each, 0, 1), "-ZI", "ZX", "XZ", "-IZ")
	isRows(t, project(t, each, 1, 0), "XZ", "-IZ", "ZI", "ZX")

	both := rowsOf(t, 2, "-IY", "-XI", "XX", "-YY") // both flip both; destabilizer 0 gives way though it flips too
	isRows(t, project(t, both, 0, 1), "XX", "-XI", "-IZ", "ZZ")
	isRows(t, project(t, both, 1, 1), "XX", "-IX", "-ZI", "ZZ")

	second := rowsOf(t, 2, "XY", "ZZ", "ZI", "-IY") // stabilizer 1 is the first that flips qubit 0, and destabilizer 0 flips it
	isRows(t, project(t, second, 0, 1), "-XI", "-IY", "ZI", "-IZ")
	isRows(t, project(t, second, 1, 0), "XY", "ZZ", "ZI", "-IY")
}

// P18.1: with two and more stabilizers that flip the qubit, the first one makes way, and the destabilizers ahead and behind take part.
func TestManyFlips(t *testing.T) {
	s := source(32)
	most := 0
	for range 300 {
		n := 4 + s.below(5)
		a := tableauOf(n, s.rows(n))
		q := s.below(n)
		count := 0
		for _, w := range wordsOf(a) {
			if flips(w, q) {
				count++
			}
		}
		most = max(most, count)
		measured(t, a, q)
	}
	if most < 10 {
		t.Errorf("at most %d rows flip a qubit", most)
	}
}

// P18.1: where the outcome is certain Project answers t itself, row by row, destabilizers that flip the qubit included.
func TestCertainPartIsTheTableau(t *testing.T) {
	s := source(33)
	seen := 0
	for range 300 {
		n := 1 + s.below(7)
		a := tableauOf(n, s.partly(n))
		for q := range n {
			bit, certain := outcome(n, wordsOf(a), q)
			if !certain {
				continue
			}
			if slices.ContainsFunc(wordsOf(a)[:n], func(w word) bool { return flips(w, q) }) {
				seen++
			}
			if b := project(t, a, q, bit); !same(a, b) {
				t.Fatalf("%s became %s", text(a), text(b))
			}
			if b, e := tableau.Project(a, q, 1-bit); e != api.ErrNull || !none(b) {
				t.Fatalf("the other outcome: %s, %d", text(b), e)
			}
		}
	}
	if seen < 100 {
		t.Errorf("%d of them have destabilizers that flip", seen)
	}
}
