package world_test

import (
	"testing"

	"cubit/api"
	"cubit/dense"
	"cubit/path"
	"cubit/world"
)

func numbers(n, k int, list ...complex128) api.State {
	s := api.State{N: n, K: k}
	for _, a := range list {
		s.Amps = append(s.Amps, api.Ring{A: a})
	}
	return s
}

func spell(num uint64, length int) api.Coin { return api.Coin{Num: num, Len: length} }

// P17.1 and P17.2: the chapter's examples, and others by hand, with the state behind them.
func TestByHand(t *testing.T) {
	pair := []api.Op{op("h", 0), op("cx", 0, 1), measure(0, 0), measure(1, 1)}
	both := of(2, 2, pair...)
	for _, c := range []struct {
		c     api.Circuit
		coins []api.Coin
		run   api.Run
		state api.State
		e     api.Errno
	}{
		{both, []api.Coin{spell(0, 1), spell(1, 1)}, ran(3, found(0, 0, 1), surely(1, 1, 1)), numbers(2, 1, 0, 0, 0, 1), 0},
		{both, []api.Coin{spell(1, 1), spell(0, 1)}, ran(0, found(0, 0, 0), surely(1, 1, 0)), numbers(2, 1, 1, 0, 0, 0), 0},
		{of(2, 2, op("x", 0), reset(0), measure(0, 0)), flips(2), ran(0, surely(0, 0, 1), surely(1, 0, 0)), numbers(2, 0, 1, 0, 0, 0), 0},
		{of(2, 2, measure(0, 0), when(measure(1, 1), 1, 1), op("x", 1)), flips(1), ran(0, surely(0, 0, 0)), numbers(2, 0, 0, 0, 1, 0), 0},
		{of(2, 2, measure(0, 0)), nil, api.Run{}, api.State{}, api.ErrCoins},
		{both, flips(1), api.Run{}, api.State{}, api.ErrCoins},
		{of(0, 0), nil, api.Run{}, numbers(0, 0, 1), 0},
		{of(0, 64), flips(9), api.Run{}, numbers(0, 0, 1), 0},
		{of(1, 0, op("h", 0), op("h", 0)), nil, api.Run{}, numbers(1, 0, 1, 0), 0},
		{of(1, 0, op("h", 0), reset(0)), []api.Coin{spell(3, 3)}, ran(0, found(0, 0, 1)), numbers(1, 1, 1, 0), 0},
		{of(1, 0, op("h", 0), reset(0)), []api.Coin{spell(4, 3)}, ran(0, found(0, 0, 0)), numbers(1, 1, 1, 0), 0},
		{of(1, 1, op("h", 0), measure(0, 0), when(op("x", 0), 1, 1), measure(0, 0)), flips(2), ran(0, found(0, 0, 1), surely(1, 0, 0)), numbers(1, 1, 1, 0), 0},
		{of(1, 1, op("x", 0), op("t", 0), op("t", 0), measure(0, 0)), flips(1), ran(1, surely(0, 0, 1)), numbers(1, 0, 0, 1i), 0},
	} {
		run, z, e := world.Run(c.c, c.coins)
		if e != c.e || !sameRun(run, c.run) || !sameState(z, c.state) {
			t.Errorf("%v with %v: %v, %v, %d", c.c.Ops, c.coins, run, z, e)
		}
		for _, g := range engines(t, c.c.Qubits) {
			if run, e := world.Play(g, c.c, c.coins); e != c.e || !sameRun(run, c.run) {
				t.Errorf("%v with %v on %T: %v, %d", c.c.Ops, c.coins, g, run, e)
			}
		}
	}
}

// byDense is Run by the words, on a state that is handed from call to call.
func byDense(c api.Circuit, coins []api.Coin) (api.Run, api.State, api.Errno) {
	if e := refused(c, coins); e != api.OK {
		return api.Run{}, api.State{}, e
	}
	z, e := dense.Zero(c.Qubits)
	if e != api.OK {
		return api.Run{}, api.State{}, e
	}
	step := func(next api.State, e api.Errno) answer {
		if e == api.OK {
			z = next
		}
		return answer{e: e}
	}
	_, run, e := words(c, coins, func(number int, call string) answer {
		switch k := calls(c, call); k.kind {
		case 'a':
			return step(dense.Apply(z, k.name, k.qubits))
		case 'p':
			return step(dense.Project(z, k.qubits[0], k.bit))
		default:
			one, all, e := dense.Weights(z, k.qubits[0])
			return answer{one, all, e}
		}
	})
	if e != api.OK {
		return api.Run{}, api.State{}, e
	}
	return run, z, api.OK
}

// A called is a call with its arguments.
type called struct {
	kind   byte
	name   string
	qubits []int
	bit    int
}

// calls finds the call that has this text among those that a circuit can lead to.
func calls(c api.Circuit, text string) called {
	for _, o := range c.Ops {
		q := o.Qubits
		switch {
		case o.Kind == api.OpGate && text == applied(o.Name, q):
			return called{'a', o.Name, q, 0}
		case o.Kind == api.OpGate:
		case text == weighed(q[0]):
			return called{'w', "", q, 0}
		case text == projected(q[0], 0):
			return called{'p', "", q, 0}
		case text == projected(q[0], 1):
			return called{'p', "", q, 1}
		case text == applied("x", q):
			return called{'a', "x", q, 0}
		}
	}
	panic("no such call: " + text)
}

func holdRun(t *testing.T, c api.Circuit, coins []api.Coin) (api.Run, api.State, api.Errno) {
	t.Helper()
	want, state, e := byDense(c, coins)
	run, z, f := world.Run(c, coins)
	if f != e || !sameRun(run, want) || !sameState(z, state) {
		t.Fatalf("%v with %v: %v, %v, %d, not %v, %v, %d", c, coins, run, z, f, want, state, e)
	}
	return run, z, f
}

// P17.2: Run of circuits of all kinds, held against the words; no circuit of a state's qubits is refused by size.
func TestRunByTheWords(t *testing.T) {
	s := source(21)
	errors, free := map[api.Errno]int{}, 0
	for j := range 2500 {
		c := s.circuit(j%6, pick(&s, 0, 1, 3, 64), s.below(50), 1+s.below(5), s.below(6))
		coins := s.coins(max(0, takers(c.Ops)-1+s.below(4)))
		run, z, e := holdRun(t, c, coins)
		errors[e]++
		if e != api.OK {
			continue
		}
		if f := dense.Check(z); f != api.OK || z.N != c.Qubits {
			t.Fatalf("%v: the state %v, %d", c, z, f)
		}
		for _, v := range run.Events {
			if !v.Certain {
				free++
			}
		}
	}
	if errors[api.OK] < 1500 || errors[api.ErrCoins] < 100 || len(errors) != 2 || free < 1000 {
		t.Errorf("errors %v; %d outcomes not certain", errors, free)
	}
}

// P17.2: a state of ten qubits, and a circuit of 4096 operations.
func TestRunAtTheLimits(t *testing.T) {
	s := source(22)
	holdRun(t, s.circuit(10, 64, 60, 3, 3), s.coins(60))
	c := s.circuit(2, 64, api.MaxOps, 3, 3)
	if run, _, e := holdRun(t, c, s.coins(takers(c.Ops))); e != api.OK || len(run.Events) < 200 {
		t.Errorf("%d events, %d", len(run.Events), e)
	}
	c = of(10, 10)
	for q := range 10 {
		c.Ops = append(c.Ops, op("h", q))
	}
	for q := range 10 {
		c.Ops = append(c.Ops, measure(q, q))
	}
	coins := []api.Coin{}
	for q := range 10 {
		coins = append(coins, spell(uint64(q%2), 1))
	}
	run, z, e := world.Run(c, coins)
	if e != api.OK || run.Bits != 0b0101010101 || z.K != 10 || z.Amps[0b0101010101] != (api.Ring{A: 1}) {
		t.Errorf("%v, K %d, %d", run, z.K, e)
	}
}

// The document's P2: of gates alone Run's state is that of dense.Run, and that of the sum over paths.
func TestGatesAlone(t *testing.T) {
	s := source(23)
	summed := 0
	for j := range 400 {
		c := s.circuit(j%6, j%3, s.below(25), 0, 0)
		run, z, e := world.Run(c, s.coins(j%3))
		if e != api.OK || !noRun(run) {
			t.Fatalf("%v: %v, %d", c, run, e)
		}
		zero, _ := dense.Zero(c.Qubits)
		if want, e := dense.Run(zero, c); e != api.OK || !sameState(z, want) {
			t.Fatalf("%v: %v, not %v, %d", c, z, want, e)
		}
		if want, e := path.State(c, 0); e == api.OK {
			summed++
			if !sameState(z, want) {
				t.Fatalf("%v: %v, and the paths' %v", c, z, want)
			}
		}
	}
	if summed < 200 {
		t.Errorf("%d summed alone", summed)
	}
}
