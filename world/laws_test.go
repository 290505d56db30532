package world_test

import (
	"slices"
	"testing"

	"cubit/api"
	"cubit/circuit"
	"cubit/coin"
	"cubit/dense"
	"cubit/root"
	"cubit/sparse"
	"cubit/world"
)

// P17.3: both engines tell the same run, or the same error, and are in the same state behind it; so does Run.
func TestTwoEngines(t *testing.T) {
	s := source(31)
	errors := map[api.Errno]int{}
	for j := range 2500 {
		c := s.circuit(j%7, pick(&s, 0, 1, 3, 64), s.below(40), 1+s.below(5), s.below(6))
		if s.below(12) == 0 {
			c = s.spoiled(c)
		}
		coins := s.coins(max(0, takers(c.Ops)-1+s.below(4)))
		if len(coins) > 0 && s.below(15) == 0 {
			coins[s.below(len(coins))] = pick(&s, wrongCoins...)
		}
		d, _ := world.Dense(c.Qubits)
		m, _ := world.Sparse(c.Qubits)
		one, e := world.Play(d, c, coins)
		other, f := world.Play(m, c, coins)
		if e != f || !sameRun(one, other) {
			t.Fatalf("%v with %v: %v, %d, and %v, %d", c, coins, one, e, other, f)
		}
		errors[e]++
		if d == nil {
			continue
		}
		run, z, f := world.Run(c, coins)
		if f != e || !sameRun(run, one) {
			t.Fatalf("%v with %v: %v, %d, and Run's %v, %d", c, coins, one, e, run, f)
		}
		for q := range c.Qubits {
			one, all, e := d.Weights(q)
			if again, sum, f := m.Weights(q); one != again || all != sum || e != f {
				t.Fatalf("%v with %v: qubit %d weighs %v of %v, and %v of %v", c, coins, q, one, all, again, sum)
			}
		}
		if e == api.OK {
			weigh(t, d, z)
		}
	}
	if errors[api.OK] < 1200 || errors[api.ErrCoins] < 100 || errors[api.ErrArg] < 50 {
		t.Errorf("errors: %v", errors)
	}
}

// P17.3: a run that ends by an error has done the same on both engines.
func TestTwoEnginesBehindAnError(t *testing.T) {
	s := source(32)
	for range 300 {
		c := s.circuit(4, 3, 30, 3, 3)
		for count := range takers(c.Ops) {
			g := engines(t, 4)
			coins := s.coins(count)
			_, e := world.Play(g[0], c, coins)
			if _, f := world.Play(g[1], c, coins); e != f {
				t.Fatalf("%v with %v: %d and %d", c, coins, e, f)
			}
			for q := range 4 {
				one, all, e := g[0].Weights(q)
				if again, sum, f := g[1].Weights(q); one != again || all != sum || e != f {
					t.Fatalf("%v with %v: qubit %d weighs %v of %v, and %v of %v", c, coins, q, one, all, again, sum)
				}
			}
		}
	}
}

// inPieces holds a run of all operations in one against one of the first of them, and one of the rest on a map of the state between.
func inPieces(t *testing.T, c api.Circuit, at int, coins []api.Coin) {
	t.Helper()
	all, end, e := world.Run(c, coins)
	first, rest := of(c.Qubits, c.Bits, c.Ops[:at]...), of(c.Qubits, c.Bits, c.Ops[at:]...)
	ahead, behind := ofFirst(all.Events, takers(first.Ops))
	run, z, f := world.Run(first, coins[:len(ahead)])
	if e != api.OK || f != api.OK || run.Coins != len(ahead) || !slices.Equal(run.Events, ahead) {
		t.Fatalf("%v with %v: %v, %d, and at first %v, %d", c, coins, all, e, run, f)
	}
	m, e := sparse.From(z)
	if e != api.OK {
		t.Fatal(e)
	}
	more, e := world.Play(m, rest, coins[len(ahead):])
	if e != api.OK || len(more.Events) != len(behind) || more.Coins != len(behind) {
		t.Fatalf("%v with %v: %v, and the rest from %d on %v, %d", c, coins, all, at, more, e)
	}
	for j, v := range more.Events {
		if v.Num += takers(first.Ops); v != behind[j] {
			t.Fatalf("%v with %v: %v, and the rest from %d on %v", c, coins, all, at, more)
		}
	}
	if state, e := m.State(); e != api.OK || !sameState(state, end) {
		t.Fatalf("%v with %v: the state %v, and from %d on %v, %d", c, coins, end, at, state, e)
	}
}

// ofFirst cuts the events where those of the first so many measurements and resets end.
func ofFirst(events []api.Event, takers int) (ahead, behind []api.Event) {
	for j, v := range events {
		if v.Num >= takers {
			return events[:j], events[j:]
		}
	}
	return events, nil
}

// P17.4: a run in pieces, cut at each place. What is behind the cut has no conditions.
func TestInPieces(t *testing.T) {
	s := source(33)
	for j := range 150 {
		whole := s.circuit(1+j%5, 1+s.below(3), 1+s.below(25), 1+s.below(6), s.below(6))
		coins := s.coins(takers(whole.Ops))
		for at := range len(whole.Ops) + 1 {
			c := whole
			c.Ops = slices.Clone(c.Ops)
			for k := at; k < len(c.Ops); k++ {
				c.Ops[k] = always(c.Ops[k])
			}
			if _, e := circuit.Check(c); e != api.OK {
				t.Fatal(e)
			}
			inPieces(t, c, at, coins)
		}
	}
}

// P17.4: in three pieces and more, from map to map, with one event or gate in each.
func TestInManyPieces(t *testing.T) {
	s := source(34)
	for j := range 150 {
		c := s.circuit(1+j%4, 2, 1+s.below(25), 4, 0)
		coins := s.coins(takers(c.Ops))
		all, end, e := world.Run(c, coins)
		z, _ := dense.Zero(c.Qubits)
		var events []api.Event
		for _, o := range c.Ops {
			m, f := sparse.From(z)
			run, g := world.Play(m, of(c.Qubits, 2, o), coins[len(events):])
			if e != api.OK || f != api.OK || g != api.OK {
				t.Fatalf("%v: %d, %d, %d", c, e, f, g)
			}
			for _, v := range run.Events {
				v.Num = len(events)
				events = append(events, v)
			}
			z, _ = m.State()
		}
		if !slices.Equal(events, all.Events) || !sameState(z, end) {
			t.Fatalf("%v with %v: %v, %v, and in pieces %v, %v", c, coins, all.Events, end, events, z)
		}
	}
}

// others are coins to lay in the place of one.
func (s *source) others() []api.Coin {
	return append(s.coins(3), api.Coin{}, spell(0, 1), spell(1, 1), spell(0, 16), spell(1<<16-1, 16))
}

// P17.5: another coin in the place of a certain event's changes nothing, the state neither; nor do others in the places of all such.
func TestNoChoiceNoMatter(t *testing.T) {
	s := source(35)
	tried := 0
	for j := range 600 {
		c := s.circuit(1+j%5, 1+s.below(3), s.below(30), 2+s.below(5), s.below(5))
		coins := s.coins(takers(c.Ops))
		run, z, e := world.Run(c, coins)
		if e != api.OK {
			t.Fatalf("%v: %d", c, e)
		}
		all := slices.Clone(coins)
		for k, v := range run.Events {
			if !v.Certain {
				continue
			}
			all[k] = pick(&s, s.others()...)
			for _, other := range s.others() {
				tried++
				changed := slices.Clone(coins)
				changed[k] = other
				if again, y, e := world.Run(c, changed); e != api.OK || !sameRun(again, run) || !sameState(y, z) {
					t.Fatalf("%v with %v: %v, and with %v in place %d: %v, %d", c, coins, run, other, k, again, e)
				}
			}
		}
		for _, g := range engines(t, c.Qubits) {
			if again, e := world.Play(g, c, all); e != api.OK || !sameRun(again, run) {
				t.Fatalf("%v with %v: %v, and with %v: %v, %d", c, coins, run, all, again, e)
			}
		}
	}
	if tried < 3000 {
		t.Errorf("%d tried alone", tried)
	}
}

// P17.5: an event is certain just where no coin tells otherwise: of those that aren't, either the lowest coin or the highest of Len 16 changes the outcome, if the lesser weight is so great.
func TestChoice(t *testing.T) {
	for _, c := range []struct {
		ops []api.Op
		run [2]api.Run
	}{
		{[]api.Op{op("h", 0), measure(0, 0)}, [2]api.Run{ran(1, found(0, 0, 1)), ran(0, found(0, 0, 0))}},
		{[]api.Op{op("h", 0), op("t", 0), op("h", 0), measure(0, 0)}, [2]api.Run{ran(1, found(0, 0, 1)), ran(0, found(0, 0, 0))}},
		{[]api.Op{op("h", 0), op("s", 0), op("s", 0), op("h", 0), measure(0, 0)}, [2]api.Run{ran(1, surely(0, 0, 1)), ran(1, surely(0, 0, 1))}},
		{[]api.Op{op("h", 0), op("h", 0), measure(0, 0)}, [2]api.Run{ran(0, surely(0, 0, 0)), ran(0, surely(0, 0, 0))}},
	} {
		for k, one := range []api.Coin{spell(0, 16), spell(1<<16-1, 16)} {
			if run, _, e := world.Run(of(1, 1, c.ops...), []api.Coin{one}); e != api.OK || !sameRun(run, c.run[k]) {
				t.Errorf("%v with %v: %v, %d", c.ops, one, run, e)
			}
		}
	}
}

// The document's P4: over all coins of one Len the outcome 1 comes as often as its share of the weight says, rounded up; and the weights of both parts add up to all.
func TestSharesOfCoins(t *testing.T) {
	s := source(36)
	for range 60 {
		c := s.circuit(3, 3, 12, 0, 0)
		_, z, e := world.Run(c, nil)
		one, all, f := dense.Weights(z, 1)
		if e != api.OK || f != api.OK {
			t.Fatalf("%v: %d, %d", c, e, f)
		}
		rest, _ := root.Sub(all, one)
		c.Ops = append(c.Ops, measure(1, 2))
		for n := range 7 {
			shown, _ := coin.Shown(n, one, all)
			ones := uint64(0)
			for num := range uint64(1) << n {
				run, part, e := world.Run(c, []api.Coin{spell(num, n)})
				weight, _ := dense.Weight(part)
				if e != api.OK || weight != []api.Root{rest, one}[run.Bits>>2] {
					t.Fatalf("%v with %d of Len %d: %v, %v, %d", c, num, n, run, weight, e)
				}
				ones += run.Bits >> 2
			}
			if ones != shown {
				t.Fatalf("%v: %d of the coins of Len %d tell 1, not %d", c, ones, n, shown)
			}
		}
	}
}

// Behind a reset the qubit is surely 0, whatever was found; behind a measurement it is surely what was found.
func TestFoundAgain(t *testing.T) {
	s := source(37)
	for j := range 400 {
		c := s.circuit(1+j%5, 2, s.below(20), 3, 2)
		q := s.below(c.Qubits)
		c.Ops = append(c.Ops, measure(q, 0), measure(q, 1), reset(q), measure(q, 0))
		run, _, e := world.Run(c, s.coins(takers(c.Ops)))
		if e != api.OK || len(run.Events) < 4 {
			t.Fatalf("%v: %v, %d", c, run, e)
		}
		last := run.Events[len(run.Events)-4:]
		outcome, num := last[0].Outcome, takers(c.Ops)-4
		if want := []api.Event{surely(num+1, q, outcome), surely(num+2, q, outcome), surely(num+3, q, 0)}; !slices.Equal(last[1:], want) || run.Bits != uint64(outcome)<<1 {
			t.Fatalf("%v: %v", c, run)
		}
	}
}
