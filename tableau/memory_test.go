package tableau_test

import (
	"slices"
	"testing"

	"cubit/api"
	"cubit/gate"
	"cubit/tableau"
)

// spare is what stands in the room behind lists, and must stay there.
const spare = 77

var behind = api.Pauli{N: spare, X: spare, Z: spare, Phase: spare}

// roomy is a tableau in memory of its own, with room behind its rows and marks in it.
func roomy(a api.Tableau) api.Tableau {
	list := append(make([]api.Pauli, 0, len(a.Rows)+2), a.Rows...)
	a.Rows = append(list, behind, behind)[:len(list)]
	return a
}

// stays asks that roomy's tableau is as it was, its spare room included.
func stays(t *testing.T, name string, a, want api.Tableau) {
	t.Helper()
	if !same(a, want) {
		t.Fatalf("%s: %s became %s", name, text(want), text(a))
	}
	if room := a.Rows[len(a.Rows):cap(a.Rows)]; !slices.Equal(room, []api.Pauli{behind, behind}) {
		t.Fatalf("%s: the room behind the rows is changed: %v", name, room)
	}
}

func roomyList(list []int) []int {
	return append(append(make([]int, 0, len(list)+2), list...), spare, spare)[:len(list)]
}

func listStays(t *testing.T, name string, list, want []int) {
	t.Helper()
	if !slices.Equal(list, want) || !slices.Equal(list[len(list):cap(list)], []int{spare, spare}) {
		t.Fatalf("%s: the list %v became %v", name, want, list[:cap(list)])
	}
}

// spoil writes over all that a tableau holds, with its spare room.
func spoil(a api.Tableau) {
	list := a.Rows[:cap(a.Rows)]
	for j := range list {
		list[j] = api.Pauli{N: -9, X: 9, Z: 99, Phase: 999}
	}
}

// given are tableaus for these tests, right ones and wrong ones.
func given() []api.Tableau {
	s := source(71)
	list := []api.Tableau{{}, {N: 64, Rows: s.anyTableau(64).Rows}}
	for j := range 40 {
		list = append(list, s.anyTableau(j%6))
	}
	for _, w := range wrongRows(&s, 2) {
		list = append(list, w.a)
	}
	return list
}

// each makes all calls with a tableau that is handed in, right ones and such as are refused, and hands on what they answer.
func each(a api.Tableau, qubits []int, then func(name string, again func() api.Tableau)) {
	tableau.Check(a)
	tableau.Same(a, a)
	for _, name := range append(gate.Names(), "none") {
		then("Apply of "+name, func() api.Tableau { b, _ := tableau.Apply(a, name, qubits); return b })
	}
	for q := -1; q < 4; q++ {
		tableau.Certain(a, q)
		for bit := -1; bit < 3; bit++ {
			then("Project", func() api.Tableau { b, _ := tableau.Project(a, q, bit); return b })
		}
	}
	for _, p := range append(slices.Clone(a.Rows), api.Pauli{N: a.N}, api.Pauli{N: a.N, Phase: 2}, api.Pauli{N: -1}) {
		tableau.Value(a, p)
	}
}

var lists = [][]int{nil, {0}, {2}, {1, 0}, {0, 2}, {0, 0}, {2, 0, 1}, {-1, 5, 5}}

// Rule 5: what is handed in stays, with the room behind it, whether it is taken or refused.
func TestArgumentsStay(t *testing.T) {
	for _, a := range given() {
		for _, list := range lists {
			mine, qubits := roomy(a), roomyList(list)
			each(mine, qubits, func(name string, again func() api.Tableau) {
				again()
				stays(t, name, mine, a)
				listStays(t, name, qubits, list)
			})
			stays(t, "a call", mine, a)
		}
		for _, b := range []api.Tableau{{}, zero(t, 2), {N: 1}} {
			mine, other := roomy(a), roomy(b)
			tableau.Same(mine, other)
			tableau.Same(other, mine)
			stays(t, "Same", mine, a)
			stays(t, "Same", other, b)
		}
	}
}

// Rule 5: an answer shares no memory with what was handed in, nor with another answer.
func TestAnswersAreTheCallers(t *testing.T) {
	for _, a := range given() {
		for _, list := range lists {
			mine := roomy(a)
			each(mine, list, func(name string, again func() api.Tableau) {
				first, second := again(), again()
				want := api.Tableau{N: first.N, Rows: slices.Clone(first.Rows)}
				spoil(first)
				stays(t, name, mine, a)
				if !same(second, want) {
					t.Fatalf("%s: two answers share memory", name)
				}
				third := again()
				spoil(mine)
				if !same(third, want) || !same(second, want) {
					t.Fatalf("%s: an answer shares memory with the tableau", name)
				}
				copy(mine.Rows[:cap(mine.Rows)], roomy(a).Rows[:cap(mine.Rows)])
			})
		}
	}
	for n := range 65 {
		first, second := zero(t, n), zero(t, n)
		spoil(first)
		if !same(second, zero(t, n)) || tableau.Check(second) != api.OK {
			t.Fatalf("Zero(%d): two answers share memory", n)
		}
	}
}

// Rule 5: an engine keeps nothing that is handed in, and Tableau is a copy, new at each call.
func TestEngineKeepsItsOwn(t *testing.T) {
	s := source(72)
	for j := range 60 {
		w := twinOf(t, j%7)
		for range 12 {
			first, second := w.x.Tableau(), w.x.Tableau()
			want := tableauOf(w.n, w.rows)
			spoil(first)
			w.is(t)
			if !same(second, want) {
				t.Fatal("two answers share memory")
			}
			w.step(t, &s)
			if !same(second, want) {
				t.Fatal("a call changed an answer that was given before it")
			}
			name, list := s.anyGate(w.n)
			mine := roomyList(list)
			w.apply(t, name, mine)
			listStays(t, name, mine, list)
			for k := range mine {
				mine[k] = spare
			}
			w.is(t)
		}
	}
}

// Rule 6: nothing is kept from call to call but an engine's own tableau; no call of one engine is seen in another.
func TestNothingIsKept(t *testing.T) {
	s := source(73)
	a, b, idle := twinOf(t, 3), twinOf(t, 3), twinOf(t, 3)
	for _, c := range given() {
		each(c, []int{1, 0}, func(_ string, again func() api.Tableau) { again() })
		a.step(t, &s)
		b.step(t, &s)
		a.is(t)
		idle.is(t)
		if !same(zero(t, 1), rowsOf(t, 1, "X", "Z")) {
			t.Fatal("Zero(1) is another one")
		}
	}
}

// The same calls tell the same, again and again.
func TestAgainAndAgain(t *testing.T) {
	for n := uint64(1); n <= 10; n++ {
		var first []word
		for round := range 3 {
			s := source(80 + n)
			w := twinOf(t, 4)
			for range 30 {
				w.step(t, &s)
			}
			if round == 0 {
				first = wordsOf(w.x.Tableau())
			} else if !slices.Equal(first, wordsOf(w.x.Tableau())) {
				t.Fatal("the same calls tell something else")
			}
		}
	}
}
