package opt_test

import (
	"slices"
	"testing"

	"cubit/api"
	"cubit/circuit"
	"cubit/dense"
	"cubit/path"
	"cubit/tableau"
	"cubit/world"
)

// want is a sort of circuits for the laws: so small that their states can be told.
func (s *source) want() wish {
	return wish{
		qubits: 1 + s.below(5), bits: s.below(4), ops: s.below(40),
		taking: s.below(4), conditions: s.below(6), again: s.below(9), left: pick(s, 4, 10, 36),
	}
}

// halves counts a circuit's halvings by the chapter's list of gates.
func halves(c api.Circuit) int {
	sum := 0
	for _, o := range c.Ops {
		sum += factOf(o.Name).halve
	}
	return sum
}

// P19.2: qubits, bits, operations, halvings, measurements and resets.
func keepsShape(t *testing.T, c, d api.Circuit) {
	t.Helper()
	if d.Qubits != c.Qubits || d.Bits != c.Bits {
		t.Fatalf("%s: %d qubits and %d bits became %d and %d", few(c), c.Qubits, c.Bits, d.Qubits, d.Bits)
	}
	if _, e := circuit.Check(d); e != api.OK {
		t.Fatalf("%s: Check of %s: %d", few(c), few(d), e)
	}
	if len(d.Ops) > len(c.Ops) || halves(d) > halves(c) {
		t.Fatalf("%s: %d operations with %d halvings became %d with %d", few(c), len(c.Ops), halves(c), len(d.Ops), halves(d))
	}
	if !slices.EqualFunc(takers(c), takers(d), sameOp) {
		t.Fatalf("%s: other measurements and resets: %s", few(c), few(d))
	}
}

// behind are all circuits that come of this one, step by step.
func behind(t *testing.T, c api.Circuit) []api.Circuit {
	t.Helper()
	var list []api.Circuit
	for more := true; more; {
		var d api.Circuit
		d, more = step(t, c)
		if more != (len(d.Ops) < len(c.Ops)) || !more && !same(c, d) {
			t.Fatalf("Step of %s: %s, %v", few(c), few(d), more)
		}
		c = d
		list = append(list, d)
	}
	return list
}

// P19.2: what Step and Run answer has the shape of what they were given; and Run is Step again and again.
func TestShape(t *testing.T) {
	s := source(11)
	for range 1500 {
		c := s.circuit(s.want())
		list := behind(t, c)
		for _, d := range list {
			keepsShape(t, c, d)
		}
		if d := run(t, c); !same(d, list[len(list)-1]) {
			t.Fatalf("Run of %s: %s, not %s", few(c), few(d), few(list[len(list)-1]))
		}
	}
	for j := range 6 {
		c := s.circuit(wish{qubits: pick(&s, 2, 64), bits: 64, ops: 1000, taking: j % 3, conditions: j % 4, again: 4, left: 36})
		keepsShape(t, c, run(t, c))
	}
}

func sameState(a, b api.State) bool {
	return a.N == b.N && a.K == b.K && slices.Equal(a.Amps, b.Amps)
}

// amplitudes asks that both circuits, of gates without conditions, lead each basis state to the same state, bit by bit.
func amplitudes(t *testing.T, c, d api.Circuit) {
	t.Helper()
	for index := range uint64(1) << c.Qubits {
		from, _ := dense.Basis(c.Qubits, index)
		a, e := dense.Run(from, c)
		b, f := dense.Run(from, d)
		if e != api.OK || f != api.OK || !sameState(a, b) {
			t.Fatalf("%s: from %d: %v, %d; of %s: %v, %d", few(c), index, a, e, few(d), b, f)
		}
	}
}

// P19.2: for gates alone each amplitude is the same, behind each step.
func TestSameAmplitudes(t *testing.T) {
	s := source(12)
	stepped := 0
	for range 150 {
		w := s.want()
		w.qubits, w.taking, w.conditions = min(w.qubits, 3), 0, 0
		c := s.circuit(w)
		for _, d := range behind(t, c) {
			amplitudes(t, c, d)
			stepped++
		}
	}
	if stepped < 500 {
		t.Errorf("%d steps", stepped)
	}
}

// P2: the sum over all paths is that of the circuit that Run leaves.
func TestSamePaths(t *testing.T) {
	s := source(13)
	for range 300 {
		w := s.want()
		w.taking, w.conditions, w.left = 0, 0, s.below(9)
		c := s.circuit(w)
		from := uint64(s.below(1 << c.Qubits))
		a, e := path.State(c, from)
		b, f := path.State(run(t, c), from)
		if e != api.OK || f != api.OK || !sameState(a, b) {
			t.Fatalf("%s: from %d: %v, %d, and %v, %d", few(c), from, a, e, b, f)
		}
	}
}

// P19.2: each pair of gates, and each flip, with one between that leaves them neighbours.
func TestSameAmplitudesOfPairs(t *testing.T) {
	for _, a := range onAll(3) {
		for _, b := range onAll(3) {
			c := of(3, 0, a, b)
			if d := run(t, c); !same(c, d) {
				amplitudes(t, c, d)
			}
		}
	}
	for _, text := range []string{"h0 x0 h0", "h2 z2 h2", "h0 cx12 x0 cz21 h0", "t1 h0 h0 t1", "cz01 h2 t2 cz10"} {
		c := made(text)
		amplitudes(t, c, run(t, c))
	}
}

func sameRun(a, b api.Run) bool {
	return a.Bits == b.Bits && a.Coins == b.Coins && slices.Equal(a.Events, b.Events)
}

// sameWorld asks that both circuits, with the same coins, come to the same run and the same state, or both to no coin.
func sameWorld(t *testing.T, c, d api.Circuit, coins []api.Coin) api.Errno {
	t.Helper()
	r, z, e := world.Run(c, coins)
	again, y, f := world.Run(d, coins)
	if e != f || !sameRun(r, again) || !sameState(z, y) {
		t.Fatalf("%s with %v: %v, %v, %d; of %s: %v, %v, %d", few(c), coins, r, z, e, few(d), again, y, f)
	}
	return e
}

// P19.2, P2: a run with the same coins tells the same and leaves the same state, behind each step.
func TestSameRun(t *testing.T) {
	s := source(14)
	errors := map[api.Errno]int{}
	for range 1200 {
		w := s.want()
		w.taking, w.conditions = 1+s.below(4), s.below(8)
		c := s.circuit(w)
		coins := s.coins(max(0, len(takers(c))-pick(&s, 0, 0, 0, 1, 3)))
		for _, d := range behind(t, c) {
			errors[sameWorld(t, c, d, coins)]++
		}
	}
	if errors[api.OK] < 3000 || errors[api.ErrCoins] < 200 {
		t.Errorf("errors: %v", errors)
	}
}

// P19.2: with all coins, gates under a condition that rules take, and measurements and resets between them.
func TestSameRunWithAllCoins(t *testing.T) {
	for _, text := range []string{
		"h0 h1 m00 x1? m12 x1? m01 h1", "h0 cx01 t1? r0 t1? m10 m00", "h0 m01 h1?2=2 cx02 z1?2=2 m00 h1?2=2 m12 m20",
		"h0 cx01 x1 m00 x1 m11", "h0 ch01 s1 r0 s1 h1 m11", "h0 m00 cz12? m01 cz21? h1 m12 r2", "h0 h1 h2 ccx012 m00 ccx102? r0 ccx012? m11 m22",
		"h1 h0 m00 h1?1=0 m11? x1?1=0 m22 h1?1=0 h1 m12",
	} {
		c := made(text)
		d := run(t, c)
		keepsShape(t, c, d)
		for k := range 1 << (2 * len(takers(c))) {
			var coins []api.Coin
			for j := range takers(c) {
				coins = append(coins, api.Coin{Num: uint64(k >> (2 * j) & 3), Len: 2})
			}
			sameWorld(t, c, d, coins)
		}
	}
}

// P2: each engine tells the same run of both, tableaux of more qubits than a state has among them.
func TestSameOnEachEngine(t *testing.T) {
	s := source(15)
	dones := 0
	for j := range 300 {
		w := s.want()
		w.taking = 1 + s.below(3)
		if j%3 == 0 {
			w.qubits, w.bits = pick(&s, 11, 64), 64
		}
		c := s.circuit(w)
		c.Ops = slices.DeleteFunc(c.Ops, func(o api.Op) bool {
			return slices.Contains([]string{"t", "tdg", "ch", "cs", "csdg", "ccx", "ccz", "cswap"}, o.Name)
		})
		coins, d := s.coins(len(takers(c))), run(t, c)
		for _, engine := range []func(int) (world.Engine, api.Errno){
			world.Dense,
			world.Sparse,
			func(n int) (world.Engine, api.Errno) { return tableau.New(n) },
		} {
			one, e := engine(c.Qubits)
			other, _ := engine(c.Qubits)
			if e != api.OK {
				continue
			}
			r, e := world.Play(one, c, coins)
			if again, f := world.Play(other, d, coins); e != api.OK || f != api.OK || !sameRun(r, again) {
				t.Fatalf("%s with %v: %v, %d; of %s: %v, %d", few(c), coins, r, e, few(d), again, f)
			}
			for q := range c.Qubits {
				a, all, _ := one.Weights(q)
				if b, sum, _ := other.Weights(q); a != b || all != sum {
					t.Fatalf("%s with %v: qubit %d weighs %v of %v, and %v of %v", few(c), coins, q, a, all, b, sum)
				}
			}
			dones++
		}
	}
	if dones < 600 {
		t.Errorf("%d runs", dones)
	}
}

// P19.3: what Run answers is done.
func TestRunIsDone(t *testing.T) {
	s := source(16)
	for range 1500 {
		c := run(t, s.circuit(s.want()))
		if d, more := step(t, c); !same(c, d) || more {
			t.Fatalf("Step of %s: %s, %v", few(c), few(d), more)
		}
		if d := run(t, c); !same(c, d) {
			t.Fatalf("Run of %s: %s", few(c), few(d))
		}
	}
}

// P19.3: a circuit of gates alone that is done, and then its inverse, have no operations left.
func TestThereAndBack(t *testing.T) {
	s := source(17)
	longest := 0
	for j := range 1500 {
		w := s.want()
		w.taking, w.left = 0, api.MaxHalf/2
		if j%10 == 0 {
			w.qubits, w.bits, w.ops = 64, 64, 200
		}
		c := run(t, s.circuit(w))
		longest = max(longest, len(c.Ops))
		back, _ := circuit.Inverse(c)
		both, e := circuit.Then(c, back)
		if e != api.OK {
			t.Fatalf("%s: %d", few(c), e)
		}
		if d := run(t, both); !same(d, of(c.Qubits, c.Bits)) {
			t.Fatalf("%s and back: %s", few(c), few(d))
		}
	}
	if longest < 100 {
		t.Errorf("%d operations at most", longest)
	}
}

// P19.3: so do all short ones of some gates, in another order of their qubits too.
func TestThereAndBackOfShortOnes(t *testing.T) {
	for many, text := range map[int]string{
		2: "x0 y1 z0 h0 s0 sdg1 t0 tdg0 v0 vdg1 w0 wdg0 w0? x0? h0?2=2 cx01 cx10 cy01 cz01 cz10 ch10 cs01 csdg10 swap01 iswap10 iswapdg01 ccx012 ccx021 ccz210 cswap012 cswap201",
		4: "h0 x0 z0 t0 s0 cx01 h1?",
	} {
		each(ops(text), many, func(list []api.Op) {
			c := of(3, 3, list...)
			if _, more := step(t, c); more {
				return
			}
			back, _ := circuit.Inverse(c)
			both, _ := circuit.Then(c, back)
			if d := run(t, both); !same(d, of(3, 3)) {
				t.Fatalf("%s and back: %s", few(c), few(d))
			}
		})
	}
}
