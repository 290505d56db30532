package world_test

import (
	"math"
	"slices"
	"testing"

	"cubit/api"
	"cubit/world"
)

// wrongCircuits are some that circuit.Check refuses, each with its error; all but the first five have an operation that takes a coin.
func wrongCircuits() []struct {
	c api.Circuit
	e api.Errno
} {
	m := measure(0, 0)
	return []struct {
		c api.Circuit
		e api.Errno
	}{
		{of(-1, 0), api.ErrArg},
		{of(65, 0), api.ErrArg},
		{of(1, -1), api.ErrArg},
		{of(1, 65), api.ErrArg},
		{of(math.MinInt, math.MaxInt), api.ErrArg},
		{of(1, 1, slices.Repeat([]api.Op{m}, 4097)...), api.ErrMany},
		{of(2, 1, m, api.Op{}), api.ErrOp},
		{of(2, 1, m, api.Op{Kind: 4, Qubits: []int{0}}), api.ErrOp},
		{of(2, 1, m, api.Op{Kind: api.OpMeasure, Name: "x", Qubits: []int{0}}), api.ErrOp},
		{of(2, 1, m, when(op("x", 0), 2, 0)), api.ErrOp},
		{of(2, 1, m, when(op("x", 0), 0, 0)), api.ErrOp},
		{of(2, 1, m, op("none", 0)), api.ErrGate},
		{of(2, 1, m, op("", 0)), api.ErrGate},
		{of(2, 1, m, op("cx", 0)), api.ErrArity},
		{of(2, 1, m, api.Op{Kind: api.OpReset}), api.ErrArity},
		{of(2, 1, m, api.Op{Kind: api.OpMeasure, Qubits: []int{0, 1}}), api.ErrArity},
		{of(2, 1, m, op("x", 2)), api.ErrIndex},
		{of(2, 1, m, op("x", -1)), api.ErrIndex},
		{of(2, 1, m, measure(0, 1)), api.ErrIndex},
		{of(2, 1, m, measure(0, -1)), api.ErrIndex},
		{of(2, 0, reset(0), measure(0, 0)), api.ErrIndex},
		{of(2, 1, m, op("cx", 1, 1)), api.ErrSame},
		{of(2, 1, append([]api.Op{m}, slices.Repeat([]api.Op{op("h", 0)}, 37)...)...), api.ErrRoots},
		{of(11, 1, m, op("none", 0)), api.ErrGate},
	}
}

// P17.1: the errors ahead of all operations in their order, each alone and several at once; no call is made.
func TestOrderOfErrors(t *testing.T) {
	for _, w := range wrongCircuits() {
		for _, coins := range [][]api.Coin{nil, flips(3), wrongCoins[:1], append(flips(2), wrongCoins...)} {
			s := &scribe{}
			if run, e := world.Play(s, w.c, coins); e != w.e || !noRun(run) || len(s.said) != 0 {
				t.Errorf("%v with %v: %q; %v, %d", w.c, coins, s.said, run, e)
			}
			if run, e := world.Play(nil, w.c, coins); e != api.ErrArg || !noRun(run) {
				t.Errorf("no engine, and %v with %v: %v, %d", w.c, coins, run, e)
			}
			if run, z, e := world.Run(w.c, coins); e != w.e || !noRun(run) || !noState(z) {
				t.Errorf("Run of %v with %v: %v, %v, %d", w.c, coins, run, z, e)
			}
		}
	}
}

// P17.1: without an engine nothing is played, however right the rest is.
func TestNoEngine(t *testing.T) {
	for _, c := range []api.Circuit{{}, of(1, 1, measure(0, 0)), of(1, 0, op("h", 0)), of(64, 64)} {
		for _, coins := range [][]api.Coin{nil, flips(1), wrongCoins} {
			if run, e := world.Play(nil, c, coins); e != api.ErrArg || !noRun(run) {
				t.Errorf("%v with %v: %v, %d", c, coins, run, e)
			}
		}
	}
}

// P17.1: a wrong coin is refused wherever it stands, whether it would be used or not, and ahead of ErrCoins and of what the engine would tell.
func TestWrongCoins(t *testing.T) {
	refuses := func(int, string) answer { return answer{e: 77} }
	for _, c := range []api.Circuit{{}, of(1, 1, op("h", 0)), of(1, 1, measure(0, 0)), of(1, 1, slices.Repeat([]api.Op{reset(0)}, 9)...)} {
		for _, wrong := range wrongCoins {
			for count := range 6 {
				for at := range count + 1 {
					coins := slices.Insert(flips(count), at, wrong)
					s := &scribe{tell: refuses}
					if run, e := world.Play(s, c, coins); e != api.ErrArg || !noRun(run) || len(s.said) != 0 {
						t.Errorf("%v with %v: %q; %v, %d", c, coins, s.said, run, e)
					}
					if run, z, e := world.Run(c, coins); e != api.ErrArg || !noRun(run) || !noState(z) {
						t.Errorf("Run of %v with %v: %v, %v, %d", c, coins, run, z, e)
					}
				}
			}
		}
	}
}

// P17.1: coins at the edges that coin.Check takes are taken.
func TestRightCoins(t *testing.T) {
	for _, one := range []api.Coin{{}, {Num: 1, Len: 1}, {Num: 1<<16 - 1, Len: 16}, {Num: 0, Len: 16}} {
		if _, run, e := hold(t, of(1, 1, measure(0, 0)), []api.Coin{one}, sure(1)); e != api.OK || run.Bits != 1 {
			t.Errorf("%v: %v, %d", one, run, e)
		}
	}
}

// P17.2: Run of more qubits than a state has tells Dense's error, behind the circuit's, and ahead of what Play would tell.
func TestRunOfTooManyQubits(t *testing.T) {
	for _, n := range []int{11, 12, 63, 64} {
		for _, c := range []api.Circuit{of(n, 1), of(n, 1, measure(0, 0)), of(n, 1, op("h", n-1), reset(0))} {
			for _, coins := range [][]api.Coin{nil, flips(4), wrongCoins} {
				if run, z, e := world.Run(c, coins); e != api.ErrArg || !noRun(run) || !noState(z) {
					t.Errorf("%v with %v: %v, %v, %d", c, coins, run, z, e)
				}
			}
		}
		if _, _, e := world.Run(of(n, 1, measure(0, 0), op("cx", 0, 0)), wrongCoins); e != api.ErrSame {
			t.Errorf("%d qubits: %d", n, e)
		}
	}
}

// spoiled is the circuit with some of its fields changed, mostly to wrong ones.
func (s *source) spoiled(c api.Circuit) api.Circuit {
	c.Ops = slices.Clone(c.Ops)
	numbers := []int{-1, 0, 1, 2, 3, 10, 11, 63, 64, 65, math.MinInt, math.MaxInt}
	if s.below(6) == 0 {
		c.Qubits = pick(s, numbers...)
	}
	if s.below(6) == 0 {
		c.Bits = pick(s, numbers...)
	}
	for range s.below(3) {
		if len(c.Ops) == 0 {
			break
		}
		o := &c.Ops[s.below(len(c.Ops))]
		switch s.below(7) {
		case 0:
			o.Kind = pick(s, numbers...)
		case 1:
			o.Name = pick(s, "", "x", "cx", "h", "none", "H", "\xff")
		case 2:
			o.Qubits = pick(s, nil, []int{}, []int{0}, []int{0, 0}, []int{1, 0}, []int{-1}, []int{64}, []int{0, 1, 2, 3})
		case 3:
			o.Bit = pick(s, numbers...)
		case 4:
			o.If = !o.If
		case 5:
			o.Mask = pick[uint64](s, 0, 1, 3, 1<<63, math.MaxUint64)
		case 6:
			o.Value = pick[uint64](s, 0, 1, 3, 1<<63, math.MaxUint64)
		}
	}
	return c
}

// P17.1 and rule 1: whatever circuits and coins are handed in, the answer is by the words, and nothing panics.
func TestWhatever(t *testing.T) {
	s := source(11)
	refused := 0
	for j := range 8000 {
		c := s.spoiled(s.circuit(s.below(5), s.below(4), s.below(12), 4, 4))
		coins := s.coins(s.below(8))
		if len(coins) > 0 && s.below(6) == 0 {
			coins[s.below(len(coins))] = pick(&s, wrongCoins...)
		}
		_, _, e := hold(t, c, coins, told(uint64(j), 30))
		if e != api.OK {
			refused++
		}
		holdRun(t, c, coins)
	}
	if refused < 2000 || refused > 7000 {
		t.Errorf("%d of 8000 were refused", refused)
	}
}
