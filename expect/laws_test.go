package expect_test

import (
	"testing"

	"cubit/api"
	"cubit/dense"
	"cubit/expect"
	"cubit/gate"
	"cubit/pauli"
	"cubit/root"
	"cubit/tableau"
)

// A reply is what Value or Sum tells.
type reply struct {
	r api.Root
	e api.Errno
}

func value(s api.State, p api.Pauli) reply {
	r, e := expect.Value(s, p)
	return reply{r, e}
}

func act(t *testing.T, s api.State, p api.Pauli) api.State {
	t.Helper()
	z, e := expect.Act(s, p)
	if e != api.OK {
		t.Fatalf("Act of %v on %v: %d", p, few(s), e)
	}
	return z
}

func mul(t *testing.T, a, b api.Pauli) api.Pauli {
	t.Helper()
	p, e := pauli.Mul(a, b)
	if e != api.OK {
		t.Fatalf("%v times %v: %d", a, b, e)
	}
	return p
}

// negative is the other one with the same P and Q but for their signs.
func (v reply) negative() reply {
	return reply{api.Root{P: -v.r.P, Q: -v.r.Q, K: v.r.K}, v.e}
}

// smaller are states with parts of few bits, which are never refused by size.
func smaller(s *source, n int) []api.State {
	return []api.State{basis(n, s.below(1<<n)), s.state(n, 2, 0), s.state(n, 5, 1), s.state(n, 20, 7), s.state(n, 9, power)}
}

// P21.2: the string without X, Y and Z has the state's weight as its value, where that isn't refused.
func TestTheWeight(t *testing.T) {
	s := source(31)
	told, refused := 0, 0
	for n := range most + 1 {
		for _, a := range append(states(t, &s, n), smaller(&s, n)...) {
			w, e := dense.Weight(a)
			if e != api.OK {
				refused++
				continue
			}
			told++
			v := value(a, api.Pauli{N: n})
			if v != (reply{w, api.OK}) {
				t.Fatalf("%v weighs %v, but has the value %v", few(a), w, v)
			}
			if u := value(a, api.Pauli{N: n, Phase: 2}); u != v.negative() {
				t.Fatalf("%v weighs %v, but has the value %v with a minus", few(a), w, u)
			}
		}
	}
	if told < 200 || refused < 200 {
		t.Errorf("told %d, refused %d", told, refused)
	}
}

// P21.2: Act by a and then by b is Act by the product, all on up to two qubits.
func TestProductsOfAll(t *testing.T) {
	s := source(32)
	for n := range 3 {
		for _, a := range []api.State{s.state(n, 53, 1), s.state(n, 54, 0)} {
			list := strings(n, 0, 1, 2, 3)
			for _, p := range list {
				behind := act(t, a, p)
				for _, q := range list {
					if z, want := act(t, behind, q), act(t, a, mul(t, q, p)); !same(z, want) {
						t.Fatalf("Act of %v and then %v on %v: %v, not %v", p, q, a, z, want)
					}
				}
			}
		}
	}
}

// P21.2: so on more qubits; and twice by one with Phase 0 is the state.
func TestProductsOfMany(t *testing.T) {
	s := source(33)
	for n := range most + 1 {
		for _, a := range states(t, &s, n) {
			p, q := s.string(n, 0, 1, 2, 3), s.string(n, 0, 1, 2, 3)
			if z, want := act(t, act(t, a, p), q), act(t, a, mul(t, q, p)); !same(z, want) {
				t.Fatalf("Act of %v and then %v on %v: %v, not %v", p, q, few(a), few(z), few(want))
			}
			p.Phase = 0
			if z := act(t, act(t, a, p), p); !same(z, a) {
				t.Fatalf("Act of %v twice: %v became %v", p, few(a), few(z))
			}
			p.Phase, q = 1, p
			q.Phase = 3
			if z := act(t, act(t, a, p), q); !same(z, a) {
				t.Fatalf("Act of %v and then %v: %v became %v", p, q, few(a), few(z))
			}
		}
	}
}

// holdBehind asks for P21.3, and tells whether both commute.
func holdBehind(t *testing.T, a, behind api.State, p, q api.Pauli) bool {
	t.Helper()
	ok, e := pauli.Commute(p, q)
	if e != api.OK {
		t.Fatal(p, q, e)
	}
	want := value(a, p)
	if !ok {
		want = want.negative()
	}
	if v := value(behind, p); v != want {
		t.Fatalf("Value of %v behind %v in %v: %v, not %v", p, q, few(a), v, want)
	}
	return ok
}

// P21.3: Value behind a string is Value, or its negative, as both commute or not.
func TestBehindStrings(t *testing.T) {
	s := source(34)
	counts := map[bool]int{}
	for n := range 4 {
		for _, a := range append(smaller(&s, n), s.state(n, 54, 1)) {
			for _, q := range strings(n, s.below(4)) {
				behind := act(t, a, q)
				for _, p := range strings(n, 2*s.below(2)) {
					counts[holdBehind(t, a, behind, p, q)]++
				}
			}
		}
	}
	for n := 4; n <= most; n++ {
		for _, a := range states(t, &s, n) {
			p, q := s.string(n, 0, 2), s.string(n, 0, 1, 2, 3)
			counts[holdBehind(t, a, act(t, a, q), p, q)]++
		}
	}
	if counts[true] < 1000 || counts[false] < 1000 {
		t.Errorf("commuting or not: %v", counts)
	}
}

// turns are what X of the first qubit, X of the second, Z of the first and Z of the second become by a gate, the second written ahead of the first, as chapter 18 has it; of a gate on one qubit what X and Z become.
var turns = []struct {
	name string
	list [4]string
}{
	{"i", [4]string{"X", "Z"}}, {"w", [4]string{"X", "Z"}}, {"wdg", [4]string{"X", "Z"}},
	{"x", [4]string{"X", "-Z"}}, {"y", [4]string{"-X", "-Z"}}, {"z", [4]string{"-X", "Z"}},
	{"h", [4]string{"Z", "X"}}, {"s", [4]string{"Y", "Z"}}, {"sdg", [4]string{"-Y", "Z"}},
	{"v", [4]string{"X", "-Y"}}, {"vdg", [4]string{"X", "Y"}},
	{"cx", [4]string{"XX", "XI", "IZ", "ZZ"}}, {"cz", [4]string{"ZX", "XZ", "IZ", "ZI"}}, {"cy", [4]string{"YX", "XZ", "IZ", "ZZ"}},
	{"swap", [4]string{"XI", "IX", "ZI", "IZ"}}, {"iswap", [4]string{"YZ", "ZY", "ZI", "IZ"}}, {"iswapdg", [4]string{"-YZ", "-ZY", "ZI", "IZ"}},
}

// laid is a short string laid on qubits, its lowest one on the first.
func laid(p api.Pauli, n int, qubits []int) api.Pauli {
	z := api.Pauli{N: n, Phase: p.Phase}
	for j, q := range qubits {
		z.X |= p.X >> j & 1 << q
		z.Z |= p.Z >> j & 1 << q
	}
	return z
}

// turned is what a gate turns a string to: the product of what its X and Z become, Y being i X Z.
func turned(t *testing.T, p api.Pauli, name string, qubits []int) api.Pauli {
	t.Helper()
	var list [4]string
	for _, c := range turns {
		if c.name == name {
			list = c.list
		}
	}
	if list[0] == "" {
		t.Fatalf("no turn of %s", name)
	}
	z := api.Pauli{N: p.N, Phase: p.Phase}
	for j, q := range qubits {
		hasX, hasZ := p.X>>q&1 == 1, p.Z>>q&1 == 1
		if hasX {
			z = mul(t, z, laid(of(t, list[j]), p.N, qubits))
		}
		if hasZ {
			z = mul(t, z, laid(of(t, list[len(qubits)+j]), p.N, qubits))
		}
		if hasX && hasZ {
			z.Phase = (z.Phase + 1) % 4
		}
		p.X &^= 1 << q
		p.Z &^= 1 << q
	}
	p.Phase = 0
	return mul(t, z, p)
}

// holdGate asks for P21.4; dense may refuse the gate by size.
func holdGate(t *testing.T, a api.State, name string, qubits []int, ps ...api.Pauli) {
	t.Helper()
	b, e := dense.Apply(a, name, qubits)
	back, eBack := gate.Inverse(name)
	if e != api.OK || eBack != api.OK {
		t.Fatalf("%s on %v: %d, %d", name, qubits, e, eBack)
	}
	for _, p := range ps {
		q := turned(t, p, back, qubits)
		if v, want := value(b, p), value(a, q); v != want {
			t.Fatalf("Value of %v behind %s on %v of %v: %v, but of %v ahead of it %v", p, name, qubits, few(a), v, q, want)
		}
	}
}

// P21.4: every gate of Clifford's on every choice of up to three qubits, with all strings.
func TestBehindGates(t *testing.T) {
	s := source(35)
	if names := clifford(3); len(names) != len(turns) {
		t.Errorf("Clifford's gates: %v", names)
	}
	for n := 1; n <= 3; n++ {
		for _, c := range turns {
			if gate.Arity(c.name) > n {
				continue
			}
			for _, qubits := range tuples(n, gate.Arity(c.name)) {
				for _, a := range []api.State{basis(n, s.below(1<<n)), s.state(n, 12, 3), s.state(n, 26, 0)} {
					holdGate(t, a, c.name, qubits, strings(n, 0, 2)...)
				}
			}
		}
	}
}

// P21.4: so on more qubits, on each choice of them, with some strings.
func TestBehindGatesOnMore(t *testing.T) {
	s := source(36)
	for n := 4; n <= most; n++ {
		a := s.state(n, 20, 2)
		for _, c := range turns {
			choices := tuples(n, gate.Arity(c.name))
			for j, qubits := range choices {
				if n < 6 || j%(1<<(n-3)) == s.below(4) {
					holdGate(t, a, c.name, qubits, s.string(n, 0, 2), s.string(n, 0, 2))
				}
			}
		}
	}
}

// P21.5: a value and its negative are no greater than the weight.
func TestNoGreaterThanTheWeight(t *testing.T) {
	s := source(37)
	told, equal := 0, 0
	hold := func(a api.State, weight api.Root, p api.Pauli) {
		v := value(a, p)
		for _, r := range []api.Root{v.r, v.negative().r} {
			c, e := root.Compare(r, weight)
			if e != api.OK || v.e != api.OK || c > 0 {
				t.Fatalf("Value of %v in %v: %v, which weighs %v", p, few(a), v, weight)
			}
			if c == 0 {
				equal++
			}
			told++
		}
	}
	for n := range most + 1 {
		for _, a := range append(smaller(&s, n), states(t, &s, n)...) {
			weight, e := dense.Weight(a)
			if e != api.OK {
				continue
			}
			if n < 3 {
				for _, p := range strings(n, 0, 2) {
					hold(a, weight, p)
				}
			}
			hold(a, weight, s.string(n, 0, 2))
		}
	}
	if told < 1000 || equal < 200 || equal > told/2 {
		t.Errorf("%d told, %d as great as the weight", told, equal)
	}
}

// pair is a tableau and a state that the same gates of Clifford's made of all noughts.
type pair struct {
	table api.Tableau
	state api.State
}

func newPair(t *testing.T, n int) pair {
	t.Helper()
	table, e := tableau.Zero(n)
	if e != api.OK {
		t.Fatal(e)
	}
	return pair{table, basis(n, 0)}
}

// gates applies so many gates of Clifford's to both.
func (c *pair) gates(t *testing.T, s *source, many int) {
	t.Helper()
	names := clifford(min(2, c.state.N))
	for range many {
		name := pick(s, names...)
		qubits := s.qubits(c.state.N, gate.Arity(name))
		var e, f api.Errno
		c.table, e = tableau.Apply(c.table, name, qubits)
		c.state, f = dense.Apply(c.state, name, qubits)
		if e != api.OK || f != api.OK {
			t.Fatalf("%s on %v: %d, %d", name, qubits, e, f)
		}
	}
}

// holdPair asks that both tell the same value of a string, but that a state isn't divided by its weight.
func holdPair(t *testing.T, c pair, p api.Pauli) int {
	t.Helper()
	n, e := tableau.Value(c.table, p)
	weight, f := dense.Weight(c.state)
	if e != api.OK || f != api.OK {
		t.Fatal(p, e, f)
	}
	want := api.Root{P: int64(n) * weight.P, Q: int64(n) * weight.Q, K: weight.K}
	if n == 0 {
		want = api.Root{}
	}
	if v := value(c.state, p); v != (reply{want, api.OK}) {
		t.Fatalf("Value of %v in %v: %v, by the tableau %d times %v", p, few(c.state), v, n, weight)
	}
	return n
}

// P5: for circuits of Clifford's gates tableau and amplitudes tell the same values of all strings.
func TestTwoViews(t *testing.T) {
	s := source(38)
	counts := map[int]int{}
	for n := 1; n <= 4; n++ {
		for range 12 {
			c := newPair(t, n)
			c.gates(t, &s, s.below(30))
			for _, p := range strings(n, 0, 2) {
				counts[holdPair(t, c, p)]++
			}
		}
	}
	if counts[1] < 100 || counts[1] != counts[-1] || counts[0] < 100 {
		t.Errorf("values: %v", counts)
	}
}

// P5: on up to ten qubits, with strings of the group among them, and behind measurements.
func TestTwoViewsOnMore(t *testing.T) {
	s := source(39)
	found := 0
	for n := 5; n <= most; n++ {
		c := newPair(t, n)
		for range 6 {
			c.gates(t, &s, 15)
			if q := s.below(n); s.below(2) == 0 {
				table, e := tableau.Project(c.table, q, 1)
				state, f := dense.Project(c.state, q, 1)
				if e != f {
					t.Fatalf("Project: %d, %d", e, f)
				}
				if e == api.OK {
					c = pair{table, state}
					found++
				}
			}
			for j, row := range c.table.Rows {
				if v := holdPair(t, c, row); j >= n && v != 1 {
					t.Fatalf("a stabilizer has the value %d", v)
				}
				holdPair(t, c, s.string(n, 0, 2))
			}
		}
	}
	if found < 5 {
		t.Errorf("found %d ones", found)
	}
}

// P21.1: Sum is the sum of the values, each times its factor, where root's calls aren't refused.
func TestSumOfValues(t *testing.T) {
	s := source(40)
	for n := range most + 1 {
		for _, a := range smaller(&s, n) {
			var want api.Root
			var l plan
			for range s.below(6) {
				p, f := s.string(n, 0, 2), s.part(8)
				term, e := root.Mul(value(a, p).r, api.Root{P: f})
				if e != api.OK {
					t.Fatal(p, f, e)
				}
				if want, e = root.Add(want, term); e != api.OK {
					t.Fatal(want, term, e)
				}
				l.ps, l.factors = append(l.ps, p), append(l.factors, f)
			}
			if r, e := expect.Sum(a, l.ps, l.factors); r != want || e != api.OK {
				t.Fatalf("Sum of %v in %v: %v, %d, not %v", l, few(a), r, e, want)
			}
		}
	}
}
