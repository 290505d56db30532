package tableau_test

import (
	"testing"

	"cubit/api"
	"cubit/dense"
	"cubit/gate"
	"cubit/pauli"
	"cubit/tableau"
	"cubit/world"
)

// size is a number of qubits for the tableau number j of a list; few are great.
func size(s *source, j int) int {
	if j%50 == 49 {
		return pick(s, 20, 63, 64)
	}
	return 1 + j%9
}

// P18.2: what Apply and Project answer is right, step by step.
func TestRightStaysRight(t *testing.T) {
	s := source(61)
	for j := range 200 {
		n := size(&s, j)
		a := s.anyTableau(n)
		for range 12 {
			if s.below(3) == 0 {
				b, e := tableau.Project(a, s.below(n), s.below(2))
				if e == api.ErrNull {
					continue
				}
				a = b
			} else {
				name, qubits := s.gate(n)
				a = apply(t, a, name, qubits...)
			}
			if e := tableau.Check(a); e != api.OK || !right(a) || a.N != n {
				t.Fatalf("%s: %d", text(a), e)
			}
		}
	}
}

// P18.3: a gate and then its inverse, on the same qubits, lead back row by row.
func TestThereAndBack(t *testing.T) {
	s := source(62)
	for _, name := range clifford(2) {
		back, e := gate.Inverse(name)
		if e != api.OK {
			t.Fatal(name, e)
		}
		for j := range 100 {
			n := max(gate.Arity(name), size(&s, j))
			a := s.anyTableau(n)
			qubits := s.qubits(n, gate.Arity(name))
			if b := apply(t, apply(t, a, name, qubits...), back, qubits...); !same(a, b) {
				t.Fatalf("%s and %s on %v: %s became %s", name, back, qubits, text(a), text(b))
			}
		}
	}
}

// P18.3: so do lists of gates, on an engine.
func TestListsThereAndBack(t *testing.T) {
	s := source(63)
	for j := range 60 {
		n := size(&s, j)
		x := engine(t, n)
		var list []api.Op
		for range 40 {
			name, qubits := s.gate(n)
			list = append(list, api.Op{Name: name, Qubits: qubits})
		}
		for _, op := range list {
			if e := x.Apply(op.Name, op.Qubits); e != api.OK {
				t.Fatal(op, e)
			}
		}
		for k := len(list) - 1; k >= 0; k-- {
			back, _ := gate.Inverse(list[k].Name)
			if e := x.Apply(back, list[k].Qubits); e != api.OK {
				t.Fatal(back, e)
			}
		}
		if !same(x.Tableau(), zero(t, n)) {
			t.Fatalf("%v and back: %s", list, text(x.Tableau()))
		}
	}
}

// P18.4: what was found is found again, and once more changes nothing; what isn't certain may be either.
func TestWhatWasFoundIsFound(t *testing.T) {
	s := source(64)
	counts := map[bool]int{}
	for j := range 300 {
		n := size(&s, j)
		a := s.anyTableau(n)
		q := s.below(n)
		_, certain, _ := tableau.Certain(a, q)
		taken := 0
		for bit := range 2 {
			b, e := tableau.Project(a, q, bit)
			if e == api.ErrNull && certain {
				continue
			}
			if e != api.OK {
				t.Fatalf("Project of %s at %d onto %d: %d", text(a), q, bit, e)
			}
			taken++
			isCertain(t, b, q, bit)
			if again := project(t, b, q, bit); !same(again, b) {
				t.Fatalf("%s became %s", text(b), text(again))
			}
			if _, e := tableau.Project(b, q, 1-bit); e != api.ErrNull {
				t.Fatalf("the other outcome of %s: %d", text(b), e)
			}
		}
		if certain != (taken == 1) || taken == 0 {
			t.Fatalf("%s at %d: certain %v, and %d outcomes", text(a), q, certain, taken)
		}
		counts[certain]++
	}
	if counts[true] < 30 || counts[false] < 100 {
		t.Errorf("certain and not: %v", counts)
	}
}

// P18.5: each stabilizer's value is 1; products of strings in the group are in it; a string with the value 0 has a stabilizer that it doesn't commute with.
func TestValues(t *testing.T) {
	s := source(65)
	for j := range 300 {
		n := size(&s, j)
		a := s.anyTableau(n)
		rows := wordsOf(a)
		for _, row := range a.Rows[n:] {
			if value(t, a, row) != 1 {
				t.Fatalf("a stabilizer of %s", text(a))
			}
		}
		for range 10 {
			p, q := s.likely(rows).pauli(), s.likely(rows).pauli()
			v, w := value(t, a, p), value(t, a, q)
			if v*w != 0 {
				product, e := pauli.Mul(p, q)
				if e != api.OK || value(t, a, product) != v*w {
					t.Fatalf("the product of %v and %v in %s", p, q, text(a))
				}
			}
			if v == 0 != hindered(a, p) {
				t.Fatalf("%v in %s: %d", p, text(a), v)
			}
			if v < -1 || v > 1 {
				t.Fatalf("a value of %d", v)
			}
		}
	}
}

// hindered tells whether a stabilizer doesn't commute with p.
func hindered(a api.Tableau, p api.Pauli) bool {
	for _, row := range a.Rows[a.N:] {
		if is, _ := pauli.Commute(row, p); !is {
			return true
		}
	}
	return false
}

// acted is the state behind a string, each letter being the gate of that name.
func acted(t *testing.T, z api.State, w word) api.State {
	t.Helper()
	for q, letter := range w.letters {
		if letter == 'I' {
			continue
		}
		next, e := dense.Apply(z, map[rune]string{'X': "x", 'Y': "y", 'Z': "z"}[letter], []int{q})
		if e != api.OK {
			t.Fatal(e)
		}
		z = next
	}
	return z
}

// inAmplitudes is a string's value in a state that a tableau tells: 1 or -1, if the string leaves it as it is or turns its sign, else 0.
func inAmplitudes(t *testing.T, z api.State, w word) int {
	t.Helper()
	k, ok := dense.Phase(acted(t, z, w), z)
	switch {
	case !ok:
		return 0
	case k == 2*w.power: // i to the power 2 is w to the power 4
		return 1
	case k == 4-2*w.power:
		return -1
	}
	t.Fatalf("%v turns the state by w to the power %d", w, k)
	return 0
}

// P5: amplitudes and tableau tell the same values of all strings, behind gates and behind outcomes.
func TestTwoViews(t *testing.T) {
	s := source(66)
	for j := range 120 {
		n := 1 + j%4
		z, _ := dense.Zero(n)
		a := zero(t, n)
		for range 5 + s.below(20) {
			if q, bit := s.below(n), s.below(2); s.below(6) == 0 {
				next, e := dense.Project(z, q, bit)
				b, f := tableau.Project(a, q, bit)
				if e != f {
					t.Fatalf("Project of %s at %d onto %d: %d and %d", text(a), q, bit, e, f)
				}
				if e == api.OK {
					z, a = next, b
				}
				continue
			}
			name, qubits := s.gate(n)
			next, e := dense.Apply(z, name, qubits)
			if e != api.OK {
				t.Fatal(name, qubits, e)
			}
			z, a = next, apply(t, a, name, qubits...)
		}
		for _, w := range words(n) {
			w.power = s.sign()
			if got, want := value(t, a, w.pauli()), inAmplitudes(t, z, w); got != want {
				t.Fatalf("%v in %s: %d, not %d", w, text(a), got, want)
			}
		}
	}
}

// played is a circuit of Clifford's gates, measurements, resets and conditions, with more coins than it needs.
func (s *source) played(n, ops int) (api.Circuit, []api.Coin) {
	c := api.Circuit{Qubits: n, Bits: 4}
	var coins []api.Coin
	halves := 0
	for range ops {
		op := api.Op{Kind: pick(s, api.OpGate, api.OpGate, api.OpGate, api.OpMeasure, api.OpReset), Qubits: []int{s.below(n)}}
		switch op.Kind {
		case api.OpGate:
			op.Name, op.Qubits = s.gate(n)
			if s.below(2) == 0 {
				op.Name, op.Qubits = "h", []int{s.below(n)}
			}
			if halves += gate.Halves(op.Name); halves > api.MaxHalf {
				return c, coins
			}
		case api.OpMeasure:
			op.Bit = s.below(c.Bits)
		}
		if s.below(4) == 0 {
			op.If, op.Mask = true, 1<<s.below(c.Bits)
			op.Value = op.Mask & s.next()
		}
		c.Ops = append(c.Ops, op)
		coins = append(coins, api.Coin{Num: uint64(s.below(8)), Len: 3})
	}
	return c, coins
}

// P2: an engine over a tableau and one over amplitudes tell the same run, or the same error, event by event.
func TestRuns(t *testing.T) {
	s := source(67)
	counts := map[[2]int]int{}
	for j := range 400 {
		n := 1 + j%6
		c, coins := s.played(n, s.below(50))
		if s.below(10) == 0 {
			coins = coins[:len(coins)/6]
		}
		d, _ := world.Dense(n)
		one, e := world.Play(d, c, coins)
		other, f := world.Play(engine(t, n), c, coins)
		if e != f || one.Bits != other.Bits || one.Coins != other.Coins || len(one.Events) != len(other.Events) {
			t.Fatalf("%v with %v: %v, %d, and %v, %d", c, coins, one, e, other, f)
		}
		for k, event := range one.Events {
			if other.Events[k] != event {
				t.Fatalf("%v with %v: %v and %v", c, coins, event, other.Events[k])
			}
			certain := 0
			if event.Certain {
				certain = 1
			}
			counts[[2]int{event.Outcome, certain}]++
		}
	}
	for outcome := range 2 {
		for certain := range 2 {
			if n := counts[[2]int{outcome, certain}]; n < 200 {
				t.Errorf("outcome %d, certain %d: %d times", outcome, certain, n)
			}
		}
	}
}

// 64 qubits in one: all are 0 or all are 1, and once one was found the others are certain.
func TestSixtyFour(t *testing.T) {
	for bit := range 2 {
		x := engine(t, 64)
		x.Apply("h", []int{17})
		for q := range 64 {
			if q != 17 {
				x.Apply("cx", []int{17, q})
			}
		}
		a := x.Tableau()
		if all := (api.Pauli{N: 64, X: 1<<64 - 1}); value(t, a, all) != 1 {
			t.Error("X on all")
		}
		if all := (api.Pauli{N: 64, X: 1<<64 - 1, Z: 1<<64 - 1}); value(t, a, all) != 1 { // i to the power 64
			t.Error("Y on all")
		}
		if ends := (api.Pauli{N: 64, Z: 1<<63 | 1, Phase: 2}); value(t, a, ends) != -1 {
			t.Error("-Z on both ends")
		}
		if e := x.Project(63, bit); e != api.OK {
			t.Fatal(e)
		}
		for q := range 64 {
			isCertain(t, x.Tableau(), q, bit)
		}
	}
}
