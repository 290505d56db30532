package linear_test

import (
	"slices"
	"testing"

	"cubit/api"
	"cubit/circuit"
	"cubit/dense"
	"cubit/linear"
	"cubit/path"
)

func gate(name string, qubits ...int) api.Op {
	return api.Op{Kind: api.OpGate, Name: name, Qubits: qubits}
}

// when is the operation under a condition.
func when(op api.Op, mask, value uint64) api.Op {
	op.If, op.Mask, op.Value = true, mask, value
	return op
}

// on is a circuit of so many qubits: each word is a gate's name and its qubits, a digit each.
func on(qubits int, words ...string) api.Circuit {
	c := api.Circuit{Qubits: qubits}
	for _, word := range words {
		op := gate("")
		for _, b := range []byte(word) {
			if b >= '0' && b <= '9' {
				op.Qubits = append(op.Qubits, int(b-'0'))
			} else {
				op.Name += string(b)
			}
		}
		c.Ops = append(c.Ops, op)
	}
	return c
}

// equal: are these the same circuits? (No list and an empty one are the same.)
func equal(a, b api.Circuit) bool {
	return a.Qubits == b.Qubits && a.Bits == b.Bits && slices.EqualFunc(a.Ops, b.Ops, equalOp)
}

func equalOp(a, b api.Op) bool {
	return a.Kind == b.Kind && a.Name == b.Name && slices.Equal(a.Qubits, b.Qubits) && a.Bit == b.Bit && a.If == b.If && a.Mask == b.Mask && a.Value == b.Value
}

func empty(c api.Circuit) bool { return c.Qubits == 0 && c.Bits == 0 && len(c.Ops) == 0 }

// circuit is one of cx and swap. It has bits too, which nothing asks.
func (s *source) circuit(qubits, ops int) api.Circuit {
	c := api.Circuit{Qubits: qubits, Bits: s.below(3)}
	for len(c.Ops) < ops && qubits > 1 {
		a, b := s.two(qubits)
		name := "cx"
		if s.below(4) == 0 {
			name = "swap"
		}
		c.Ops = append(c.Ops, gate(name, a, b))
	}
	return c
}

// played is what the operations do to a number's bits, one behind the other.
func played(c api.Circuit, x uint64) uint64 {
	for _, op := range c.Ops {
		a, b := op.Qubits[0], op.Qubits[1]
		one, other := x>>a&1, x>>b&1
		if op.Name == "swap" && one != other {
			x ^= 1<<a | 1<<b
		}
		if op.Name == "cx" && one == 1 {
			x ^= 1 << b
		}
	}
	return x
}

// fromPlayed asks that From tells what the operations do.
func fromPlayed(t *testing.T, c api.Circuit) {
	t.Helper()
	want := of(c.Qubits, func(x uint64) uint64 { return played(c, x) })
	if m := from(t, c); !same(m, want) {
		t.Errorf("From(%v): %v, not %v", c, m, want)
	}
}

// P20.1: From of each cx and swap on each two of up to 64 qubits; of no operation.
func TestFromOfOne(t *testing.T) {
	for _, n := range sizes() {
		fromPlayed(t, api.Circuit{Qubits: n})
		fromPlayed(t, api.Circuit{Qubits: n, Bits: 64})
		for a := range n {
			for b := range n {
				if a != b {
					fromPlayed(t, api.Circuit{Qubits: n, Ops: []api.Op{gate("cx", a, b)}})
					fromPlayed(t, api.Circuit{Qubits: n, Ops: []api.Op{gate("swap", a, b)}})
				}
			}
		}
	}
}

// P20.1: From of every list of up to four operations on three qubits, one behind the other.
func TestFromOfAllShortOnes(t *testing.T) {
	words := []string{"cx01", "cx10", "cx02", "cx20", "cx12", "cx21", "swap01", "swap20", "swap12"}
	lists := [][]string{nil}
	for range 4 {
		var longer [][]string
		for _, list := range lists {
			fromPlayed(t, on(3, list...))
			for _, word := range words {
				longer = append(longer, append(slices.Clone(list), word))
			}
		}
		lists = longer
	}
	for _, list := range lists {
		fromPlayed(t, on(3, list...))
	}
}

// P20.1: From of circuits of all sizes, up to as many operations as there may be.
func TestFromOfMany(t *testing.T) {
	s := source(31)
	for n := range api.MaxRows + 1 {
		for _, ops := range []int{1, 5, 20, 100} {
			fromPlayed(t, s.circuit(n, ops))
		}
	}
	fromPlayed(t, s.circuit(64, api.MaxOps))
	fromPlayed(t, s.circuit(2, api.MaxOps))
}

// told asks of what has a way back that Synth tells a circuit as the chapter has it, and that From tells the matrix of it. It tells how many gates there are.
func told(t *testing.T, m api.Linear) int {
	t.Helper()
	c := synth(t, m)
	if at, e := circuit.Check(c); e != api.OK || c.Qubits != m.N || c.Bits != 0 || len(c.Ops) > m.N*m.N {
		t.Fatalf("Synth(%v): %d qubits, %d bits, %d operations, Check %d, %d", m, c.Qubits, c.Bits, len(c.Ops), at, e)
	}
	for j, op := range c.Ops {
		if len(op.Qubits) != 2 || !equalOp(op, gate("cx", op.Qubits...)) {
			t.Fatalf("Synth(%v): operation %d is %v", m, j, op)
		}
	}
	if back := from(t, c); !same(back, m) {
		t.Fatalf("From(Synth(%v)): %v", m, back)
	}
	if again := of(m.N, func(x uint64) uint64 { return played(c, x) }); !same(again, m) {
		t.Fatalf("Synth(%v) does %v", m, again)
	}
	if again := synth(t, m); !equal(again, c) {
		t.Fatalf("Synth(%v): %v, and then %v", m, c, again)
	}
	return len(c.Ops)
}

// P20.1: Synth of every matrix of up to four rows.
func TestSynthOfAllSmallOnes(t *testing.T) {
	for n := range 5 {
		taken := 0
		allOf(n, func(m api.Linear) {
			if !oneToOne(m) {
				singular(t, m)
				return
			}
			told(t, m)
			taken++
		})
		if want := []int{1, 1, 6, 168, 20160}[n]; taken != want {
			t.Errorf("%d of %d rows, not %d", taken, n, want)
		}
	}
}

// P20.1: Synth of many matrices of all sizes. Eye wants no gate.
func TestSynthOfMany(t *testing.T) {
	s := source(32)
	for n := range api.MaxRows + 1 {
		for range 8 {
			told(t, s.ranked(n, n))
			if n > 0 {
				singular(t, s.ranked(n, s.below(n)))
			}
		}
		told(t, turned(from(t, s.circuit(n, 3*n))))
		if many := told(t, eye(n)); many != 0 {
			t.Errorf("Synth of Eye(%d): %d operations", n, many)
		}
	}
}

// P20.1: rows in other orders alone, which have no row with two ones: none is to want more gates than there may be.
func TestSynthOfOrders(t *testing.T) {
	s := source(33)
	for n := range api.MaxRows + 1 {
		for range 5 {
			m := eye(n)
			for i, j := range s.shuffled(n) {
				m.Rows[i] = 1 << j
			}
			told(t, m)
		}
	}
}

// P20.1: what wants many gates: rows of ones but for the place that Eye has its one at.
func TestSynthOfHollowOnes(t *testing.T) {
	for n := 1; n <= api.MaxRows; n++ {
		hollow := eye(n)
		for i := range hollow.Rows {
			hollow.Rows[i] ^= last(n)
		}
		if n%2 == 0 {
			told(t, hollow)
		} else { // each row has an even number of ones, and so has each sum of them
			singular(t, hollow)
		}
	}
}

// P20.4: From of a circuit behind another is the product, the last one ahead; From of the inverse is the inverse.
func TestThenAndInverse(t *testing.T) {
	s := source(34)
	for n := range api.MaxRows + 1 {
		for j := range 6 {
			a, b := s.circuit(n, 1+j*j), s.circuit(n, n*j/2)
			b.Bits = a.Bits
			both, e := circuit.Then(a, b)
			if e != api.OK {
				t.Fatalf("Then: %d", e)
			}
			if left, right := from(t, both), mul(t, from(t, b), from(t, a)); !same(left, right) {
				t.Errorf("%v, %v: %v and %v", a, b, left, right)
			}
			back, e := circuit.Inverse(both)
			if e != api.OK {
				t.Fatalf("Inverse: %d", e)
			}
			if left, right := from(t, back), inverse(t, from(t, both)); !same(left, right) {
				t.Errorf("%v: %v and %v", both, left, right)
			}
		}
	}
}

// P20.4: circuits for a product, one behind the other, do what one circuit for it does.
func TestSynthOfProducts(t *testing.T) {
	s := source(35)
	for n := range api.MaxRows/2 + 1 {
		a, b := s.ranked(n, n), s.ranked(n, n)
		both, e := circuit.Then(synth(t, b), synth(t, a))
		if e != api.OK {
			t.Fatalf("Then: %d", e)
		}
		if left, right := from(t, both), from(t, synth(t, mul(t, a, b))); !same(left, right) {
			t.Errorf("%v, %v: %v and %v", a, b, left, right)
		}
	}
}

// leads asks that a circuit leads the basis state x to the one that m tells, with the amplitude 1.
func leads(t *testing.T, c api.Circuit, m api.Linear, x uint64) {
	t.Helper()
	begin, e := dense.Basis(c.Qubits, x)
	if e != api.OK {
		t.Fatalf("Basis(%d, %d): %d", c.Qubits, x, e)
	}
	end, e := dense.Run(begin, c)
	if e != api.OK {
		t.Fatalf("Run(%v): %d", c, e)
	}
	want, _ := dense.Basis(c.Qubits, apply(t, m, x))
	if end.N != want.N || end.K != want.K || !slices.Equal(end.Amps, want.Amps) {
		t.Errorf("%v leads %d not to %d", c, x, apply(t, m, x))
	}
}

// P20.4: Synth's circuit of every matrix of up to three rows, on every basis state.
func TestBasisStatesOfSmallOnes(t *testing.T) {
	for n := range 4 {
		allOf(n, func(m api.Linear) {
			if rank(t, m) < n {
				return
			}
			for x := range uint64(1) << n {
				leads(t, synth(t, m), m, x)
			}
		})
	}
}

// P20.4: Synth's circuit of matrices of up to MaxQubits rows; every basis state up to six qubits, some above.
func TestBasisStates(t *testing.T) {
	s := source(36)
	for n := 4; n <= api.MaxQubits; n++ {
		for range 3 {
			m := s.ranked(n, n)
			c := synth(t, m)
			numbers := s.numbers(n)
			if n <= 6 {
				numbers = nil
				for x := range uint64(1) << n {
					numbers = append(numbers, x)
				}
			}
			for _, x := range numbers {
				leads(t, c, m, x)
			}
		}
	}
}

// P20.4: From tells where circuits of cx and swap lead basis states.
func TestBasisStatesOfCircuits(t *testing.T) {
	s := source(37)
	for n := range api.MaxQubits + 1 {
		for range 4 {
			c := s.circuit(n, 2*n)
			for _, x := range s.numbers(n) {
				leads(t, c, from(t, c), x)
			}
		}
	}
}

// P20.4, beyond the states' bound: what sums over paths tell, on up to 64 qubits.
func TestPathsOfSynth(t *testing.T) {
	s := source(38)
	for _, n := range sizes() {
		m := s.ranked(n, n)
		c := synth(t, m)
		for _, x := range s.numbers(n)[:6] {
			y, e := linear.Apply(m, x)
			if a, f := path.Amp(c, x, y); e != api.OK || f != api.OK || a != (api.Amp{R: api.Ring{A: 1}}) {
				t.Errorf("%v: from %d to %d %v, %d, %d", m, x, y, a, e, f)
			}
		}
	}
}
