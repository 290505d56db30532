package world_test

import (
	"slices"
	"testing"

	"cubit/api"
	"cubit/world"
)

// spare is what stands in the room behind lists, and must stay there.
const spare = 77

// roomy is a circuit in memory of its own, with room behind each of its lists and marks in it.
func roomy(c api.Circuit) api.Circuit {
	ops := make([]api.Op, 0, len(c.Ops)+2)
	for _, o := range c.Ops {
		list := append(make([]int, 0, len(o.Qubits)+2), o.Qubits...)
		o.Qubits = append(list, spare, spare)[:len(list)]
		ops = append(ops, o)
	}
	c.Ops = append(ops, api.Op{Kind: spare}, api.Op{Kind: spare})[:len(ops)]
	return c
}

func roomyCoins(coins []api.Coin) []api.Coin {
	list := append(make([]api.Coin, 0, len(coins)+2), coins...)
	return append(list, api.Coin{Len: spare}, api.Coin{Len: spare})[:len(coins)]
}

// stays asks that roomy's circuit is as it was, its spare room included.
func stays(t *testing.T, c, want api.Circuit) {
	t.Helper()
	if c.Qubits != want.Qubits || c.Bits != want.Bits || len(c.Ops) != len(want.Ops) {
		t.Fatalf("%v became %v", want, c)
	}
	for j, o := range c.Ops {
		w := want.Ops[j]
		if !slices.Equal(o.Qubits, w.Qubits) || !slices.Equal(o.Qubits[len(o.Qubits):cap(o.Qubits)], []int{spare, spare}) {
			t.Fatalf("the qubits %v became %v", w.Qubits, o.Qubits[:cap(o.Qubits)])
		}
		if o.Kind != w.Kind || o.Name != w.Name || o.Bit != w.Bit || o.If != w.If || o.Mask != w.Mask || o.Value != w.Value {
			t.Fatalf("%v became %v", w, o)
		}
	}
	if room := c.Ops[len(c.Ops):cap(c.Ops)]; len(room) != 2 || room[0].Kind != spare || room[1].Kind != spare {
		t.Fatalf("the room behind the operations is changed: %v", room)
	}
}

func coinsStay(t *testing.T, coins, want []api.Coin) {
	t.Helper()
	room := coins[len(coins):cap(coins)]
	if !slices.Equal(coins, want) || len(room) != 2 || room[0] != (api.Coin{Len: spare}) || room[1] != (api.Coin{Len: spare}) {
		t.Fatalf("the coins %v became %v", want, coins[:cap(coins)])
	}
}

// Rule 5: circuits and coins that are handed in stay, with the room behind them, also where the engine writes over the lists that it is handed.
func TestArgumentsStay(t *testing.T) {
	s := source(41)
	for j := range 600 {
		c := s.circuit(1+j%5, 3, s.below(20), 3, 3)
		if j%10 == 0 {
			c = s.spoiled(c)
		}
		coins := s.coins(max(0, takers(c.Ops)-1+s.below(3)))
		mine, own := roomy(c), roomyCoins(coins)
		g := &scribe{tell: told(uint64(j), 40)}
		g.then = func() { stays(t, mine, c); coinsStay(t, own, coins) }
		world.Play(g, mine, own)
		world.Run(mine, own)
		for _, g := range engines(t, 5) {
			world.Play(g, mine, own)
		}
		stays(t, mine, c)
		coinsStay(t, own, coins)
	}
}

// P17.1: each list of qubits that an engine is handed is new memory: no two of them share any, its spare room included, nor do they with the circuit.
func TestListsAreNew(t *testing.T) {
	one, two := []int{1, 0, 2}, []int{3}
	shared := of(4, 2, op("x", one[:1]...), op("cx", one[:2]...), op("ccx", one...), op("h", two...), api.Op{Kind: api.OpReset, Qubits: two}, api.Op{Kind: api.OpReset, Qubits: two}, op("cx", one[:2]...), reset(0))
	s := source(42)
	circuits := []api.Circuit{shared, busy(), of(1, 0, slices.Repeat([]api.Op{op("x", 0), reset(0)}, 40)...)}
	for range 200 {
		circuits = append(circuits, s.circuit(5, 2, 30, 4, 2))
	}
	for _, c := range circuits {
		g := &scribe{tell: sure(1<<64 - 1)}
		if _, e := world.Play(g, c, flips(takers(c.Ops))); e != api.OK {
			t.Fatal(e)
		}
		for j, list := range g.lists {
			spoil(list, 1000+j)
		}
		for j, list := range g.lists {
			for _, q := range list[:cap(list)] {
				if q != 1000+j {
					t.Fatalf("%v: the lists %d and %d share memory", c, j, q-1000)
				}
			}
		}
	}
	if !slices.Equal(one, []int{1, 0, 2}) || !slices.Equal(two, []int{3}) {
		t.Errorf("the circuit was lent: %v, %v", one, two)
	}
}

// P17.1: the operations and coins are those that were handed in, also where the engine writes over them while it is called.
func TestWrittenOverMeanwhile(t *testing.T) {
	s := source(43)
	for j := range 400 {
		c := s.circuit(1+j%5, 3, 1+s.below(20), 4, 3)
		coins := s.coins(takers(c.Ops))
		said, run, e := words(c, coins, told(uint64(j), 60))
		mine, own := roomy(c), slices.Clone(coins)
		g := &scribe{tell: told(uint64(j), 60)}
		g.then = func() {
			for k := range mine.Ops {
				spoil(mine.Ops[k].Qubits, 9)
				mine.Ops[k] = api.Op{Kind: api.OpMeasure}
			}
			for k := range own {
				own[k] = api.Coin{Len: -1}
			}
		}
		got, f := world.Play(g, mine, own)
		if f != e || !sameRun(got, run) || !slices.Equal(g.said, said) {
			t.Fatalf("%v with %v: %q; %v, %d, not %q; %v, %d", c, coins, g.said, got, f, said, run, e)
		}
	}
}

// Rule 5: what is answered is the caller's own: new at each call.
func TestAnswersAreTheCallers(t *testing.T) {
	s := source(44)
	for j := range 300 {
		c := s.circuit(1+j%4, 3, s.below(20), 4, 3)
		coins := s.coins(takers(c.Ops))
		want, state, e := holdRun(t, c, coins)
		if e != api.OK {
			t.Fatal(e)
		}
		first, z, _ := world.Run(c, coins)
		second, y, _ := world.Run(c, coins)
		events := first.Events[:cap(first.Events)]
		for k := range events {
			events[k] = api.Event{Num: -1}
		}
		list := z.Amps[:cap(z.Amps)]
		for k := range list {
			list[k] = api.Ring{A: -9, B: 9i}
		}
		third, x, _ := world.Run(c, coins)
		if !sameRun(second, want) || !sameRun(third, want) || !sameState(y, state) || !sameState(x, state) {
			t.Fatalf("%v with %v: answers share memory", c, coins)
		}
	}
}

// Rule 6: nothing is kept from run to run, what was refused neither; a run within a run is one by itself.
func TestNothingIsKept(t *testing.T) {
	inner := of(2, 2, op("h", 0), op("cx", 0, 1), measure(0, 0), measure(1, 1))
	want := ran(3, found(0, 0, 1), surely(1, 1, 1))
	s := source(45)
	for j := range 300 {
		c := s.circuit(1+j%4, 3, s.below(20), 4, 3)
		coins := s.coins(max(0, takers(c.Ops)-1+s.below(3)))
		said, run, e := words(c, coins, told(uint64(j), 40))
		g := &scribe{tell: told(uint64(j), 40)}
		g.then = func() {
			if r, _, e := world.Run(inner, flips(2)); e != api.OK || !sameRun(r, want) {
				t.Fatalf("within %v: %v, %d", c, r, e)
			}
			world.Play(&scribe{tell: func(int, string) answer { return answer{e: 5} }}, c, coins)
		}
		if got, f := world.Play(g, c, coins); f != e || !sameRun(got, run) || !slices.Equal(g.said, said) {
			t.Fatalf("%v with %v: %v, %d, not %v, %d", c, coins, got, f, run, e)
		}
		if r, _, e := world.Run(inner, flips(2)); e != api.OK || !sameRun(r, want) {
			t.Fatalf("behind %v: %v, %d", c, r, e)
		}
	}
}
