package world_test

import (
	"math"
	"slices"
	"strings"
	"testing"

	"cubit/api"
	"cubit/coin"
	"cubit/world"
)

// sure tells of each weighing that the qubits in this set are 1, and all others 0.
func sure(ones uint64) teller {
	return func(_ int, call string) answer {
		for q := range 64 {
			if ones>>q&1 == 1 && call == weighed(q) {
				return answer{one: whole, all: whole}
			}
		}
		return answer{one: null, all: whole}
	}
}

// P17.1: the calls in their order, by hand.
func TestCalls(t *testing.T) {
	for _, c := range []struct {
		c    api.Circuit
		tell teller
		said string
		run  api.Run
	}{
		{of(0, 0), nil, "", api.Run{}},
		{of(1, 0, op("h", 0)), nil, "apply h[0]", api.Run{}},
		{of(3, 0, op("ccx", 2, 0, 1), op("cx", 1, 2)), nil, "apply ccx[2 0 1], apply cx[1 2]", api.Run{}},
		{of(1, 1, measure(0, 0)), sure(1), "weights 0, project 0 onto 1", ran(1, surely(0, 0, 1))},
		{of(1, 1, measure(0, 0)), sure(0), "weights 0, project 0 onto 0", ran(0, surely(0, 0, 0))},
		{of(1, 1, measure(0, 0)), nil, "weights 0, project 0 onto 1", ran(1, found(0, 0, 1))},
		{of(8, 0, reset(7)), sure(1 << 7), "weights 7, project 7 onto 1, apply x[7]", ran(0, surely(0, 7, 1))},
		{of(8, 0, reset(7)), sure(0), "weights 7, project 7 onto 0", ran(0, surely(0, 7, 0))},
		{of(2, 2, op("h", 1), reset(0), op("h", 0), measure(1, 1), op("x", 1)), sure(3),
			"apply h[1], weights 0, project 0 onto 1, apply x[0], apply h[0], weights 1, project 1 onto 1, apply x[1]",
			ran(2, surely(0, 0, 1), surely(1, 1, 1))},
		{of(2, 2, when(measure(1, 1), 2, 2), when(reset(0), 3, 1), when(op("h", 0), 1, 1), measure(0, 0), when(op("y", 1), 1, 1), when(measure(1, 1), 3, 1)), sure(3),
			"weights 0, project 0 onto 1, apply y[1], weights 1, project 1 onto 1",
			ran(3, surely(2, 0, 1), surely(3, 1, 1))},
	} {
		s := &scribe{tell: c.tell}
		run, e := world.Play(s, c.c, flips(4))
		if said := strings.Join(s.said, ", "); said != c.said || e != api.OK || !sameRun(run, c.run) {
			t.Errorf("%v: %s; %v, %d", c.c.Ops, said, run, e)
		}
	}
}

// told is a teller whose weights are mostly right, and which refuses one call in so many; none, if that is 0.
func told(seed uint64, one int) teller {
	return func(number int, call string) answer {
		s := source(seed + 977*uint64(number))
		s.next()
		a := pick(&s, answer{null, whole, 0}, answer{whole, whole, 0}, answer{half, whole, 0}, answer{half, half, 0}, answer{api.Root{P: 3, Q: -2, K: 2}, half, 0},
			answer{api.Root{Q: 1, K: 2}, whole, 0}, answer{null, api.Root{P: 1, K: 60}, 0}, answer{api.Root{P: 1, K: 16}, whole, 0}, answer{api.Root{P: 1<<16 - 1, K: 16}, whole, 0})
		if one > 0 && s.below(3*one) == 0 {
			a = pick(&s, refusedWeights...).answer
		}
		if one > 0 && s.below(one) == 0 {
			a.e = pick(&s, strange...)
		}
		return a
	}
}

// strange are errors that an engine may tell.
var strange = []api.Errno{1, api.ErrArg, api.ErrBig, api.ErrNull, api.ErrCoins, api.ErrEngine, 77, -1, math.MaxInt, math.MinInt}

// P17.1: circuits of all kinds, with coins and engines of all kinds, held against the words.
func TestByTheWords(t *testing.T) {
	s := source(1)
	errors, left, outcomes, certain, resets := map[api.Errno]int{}, 0, [2]int{}, 0, 0
	for j := range 12000 {
		c := s.circuit(1+s.below(pick(&s, 3, 64)), pick(&s, 0, 1, 3, 64), s.below(30), 1+s.below(9), s.below(8))
		coins := s.coins(max(0, takers(c.Ops)-2+s.below(5)))
		if len(coins) > 0 && s.below(12) == 0 {
			coins[s.below(len(coins))] = pick(&s, wrongCoins...)
		}
		said, run, e := hold(t, c, coins, told(uint64(j), pick(&s, 0, 0, 20, 200)))
		errors[e]++
		if e != api.OK {
			continue
		}
		left += takers(c.Ops) - len(run.Events)
		for _, v := range run.Events {
			outcomes[v.Outcome]++
			if v.Certain {
				certain++
			}
		}
		for k := range said {
			if k > 0 && strings.HasPrefix(said[k], "apply x") && strings.HasPrefix(said[k-1], "project") {
				resets++
			}
		}
	}
	for _, e := range append([]api.Errno{api.OK}, strange...) {
		if errors[e] < 50 {
			t.Errorf("error %d: %d times only", e, errors[e])
		}
	}
	if errors[api.OK] < 5000 || errors[api.ErrCoins] < 500 || left < 1000 || outcomes[0] < 1000 || outcomes[1] < 1000 || certain < 1000 || resets < 1000 {
		t.Errorf("errors %v, %d left out, outcomes %v, %d certain, %d resets", errors, left, outcomes, certain, resets)
	}
}

// busy is a circuit with each place where an engine is called, if all qubits are 1; seven coins.
func busy() api.Circuit {
	return of(3, 3, op("h", 0), reset(1), measure(0, 0), op("cx", 0, 1), measure(2, 2), when(reset(2), 5, 5), when(reset(0), 1, 0), op("ccz", 2, 1, 0), reset(0), measure(1, 0), when(op("t", 2), 1, 1), measure(0, 1))
}

// P17.1: an error at each place where one can come ends the run: it is answered beside the zero run, and no call is made behind it.
func TestErrorAtEachPlace(t *testing.T) {
	for _, tell := range []teller{sure(7), sure(0), sure(5), sure(2), told(3, 0)} {
		said, _, e := hold(t, busy(), flips(7), tell)
		if e != api.OK || len(said) < 14 {
			t.Fatalf("%q, %d", said, e)
		}
		for at := range said {
			for _, wrong := range strange {
				s := &scribe{tell: func(number int, call string) answer {
					a := tell(number, call)
					if number == at {
						a.e = wrong
					}
					return a
				}}
				run, e := world.Play(s, busy(), flips(7))
				if e != wrong || !noRun(run) || !slices.Equal(s.said, said[:at+1]) {
					t.Errorf("error %d at %d: %q; %v, %d", wrong, at, s.said, run, e)
				}
			}
		}
	}
}

// refusedWeights are such as coin.Toss refuses, with its error beside a coin of Len 16.
var refusedWeights = []struct {
	answer
	want api.Errno
}{
	{answer{null, null, 0}, api.ErrNull},
	{answer{whole, null, 0}, api.ErrNull},
	{answer{whole, half, 0}, api.ErrArg},
	{answer{api.Root{P: -1}, whole, 0}, api.ErrArg},
	{answer{null, api.Root{P: -1}, 0}, api.ErrArg},
	{answer{api.Root{P: 2, K: 1}, whole, 0}, api.ErrArg},
	{answer{null, api.Root{P: 2, K: 1}, 0}, api.ErrArg},
	{answer{api.Root{K: 1}, whole, 0}, api.ErrArg},
	{answer{null, api.Root{P: 1 << 53}, 0}, api.ErrArg},
	{answer{null, api.Root{P: 1, K: 61}, 0}, api.ErrArg},
	{answer{null, api.Root{P: 1, K: -1}, 0}, api.ErrArg},
	{answer{api.Root{P: math.MinInt64}, api.Root{P: math.MaxInt64}, 0}, api.ErrArg},
	{answer{null, api.Root{P: 1 << 37}, 0}, api.ErrBig},
	{answer{api.Root{P: 1 << 37, K: 60}, whole, 0}, api.ErrArg},
	{answer{api.Root{P: 1<<37 + 1, K: 60}, whole, 0}, api.ErrBig},
}

// P17.1: weights that coin.Toss refuses end the run with its error, at each measurement and reset; nothing is projected.
func TestRefusedWeights(t *testing.T) {
	coins := slices.Repeat([]api.Coin{{Num: 5, Len: 16}}, 7)
	said, _, _ := hold(t, busy(), coins, sure(7))
	for at, call := range said {
		if !strings.HasPrefix(call, "weights") {
			continue
		}
		for _, w := range refusedWeights {
			s := &scribe{tell: func(number int, call string) answer {
				if number == at {
					return w.answer
				}
				return sure(7)(number, call)
			}}
			run, e := world.Play(s, busy(), coins)
			if e != w.want || !noRun(run) || !slices.Equal(s.said, said[:at+1]) {
				t.Errorf("%v at %d: %q; %v, %d, not %d", w.answer, at, s.said, run, e, w.want)
			}
		}
	}
}

// P17.1: beside an error of Weights its weights aren't looked at: its error comes, and not Toss's.
func TestWeightsBesideAnError(t *testing.T) {
	for _, w := range refusedWeights {
		for _, o := range []api.Op{measure(0, 0), reset(0)} {
			s := &scribe{tell: func(int, string) answer { return answer{w.one, w.all, 77} }}
			if run, e := world.Play(s, of(1, 1, o), flips(1)); e != 77 || !noRun(run) || len(s.said) != 1 {
				t.Errorf("%v: %q; %v, %d", w, s.said, run, e)
			}
		}
	}
}

// P17.1: each measurement and reset takes the next coin, also where the outcome is certain: the coins' own lengths decide, one behind the other.
func TestEachTakesTheNextCoin(t *testing.T) {
	s := source(2)
	for range 300 {
		c := of(4, 4)
		for range 1 + s.below(12) {
			c.Ops = append(c.Ops, pick(&s, measure(s.below(4), s.below(4)), reset(s.below(4)), op("h", s.below(4))))
		}
		count := takers(c.Ops)
		coins := s.coins(count)
		_, run, e := hold(t, c, coins, weighs(half, whole))
		if e != api.OK || run.Coins != count || len(run.Events) != count {
			t.Fatalf("%v, %d", run, e)
		}
		for j, v := range run.Events {
			if want, _, _ := coin.Toss(coins[j], half, whole); v.Outcome != want || v.Num != j || v.Certain {
				t.Fatalf("event %d with the coin %v: %v", j, coins[j], v)
			}
		}
	}
}

// weighs tells the same weights of each qubit, and refuses nothing.
func weighs(one, all api.Root) teller { return func(int, string) answer { return answer{one, all, 0} } }

// P17.1: too few coins, just enough, and more than are used.
func TestCountsOfCoins(t *testing.T) {
	said, run, e := hold(t, busy(), flips(7), sure(7))
	if e != api.OK || run.Coins != 7 {
		t.Fatalf("%v, %d", run, e)
	}
	for count := range 12 {
		s := &scribe{tell: sure(7)}
		got, e := world.Play(s, busy(), flips(count))
		switch {
		case count >= 7:
			if e != api.OK || !sameRun(got, run) || !slices.Equal(s.said, said) {
				t.Errorf("%d coins: %v, %d", count, got, e)
			}
		case e != api.ErrCoins || !noRun(got) || !slices.Equal(s.said, upTo(said, count)):
			t.Errorf("%d coins: %q; %v, %d", count, s.said, got, e)
		}
	}
}

// upTo is the calls ahead of the weighing for which no coin is left.
func upTo(said []string, coins int) []string {
	for j, call := range said {
		if strings.HasPrefix(call, "weights") {
			if coins == 0 {
				return said[:j]
			}
			coins--
		}
	}
	return said
}

// P17.1: what is left out needs no coin.
func TestLeftOutNeedsNoCoin(t *testing.T) {
	c := of(2, 2, when(measure(0, 0), 3, 3), when(reset(1), 2, 2), op("h", 1), when(measure(1, 1), 1, 1))
	if said, run, e := hold(t, c, nil, sure(3)); e != api.OK || !noRun(run) || len(said) != 1 {
		t.Errorf("%q; %v, %d", said, run, e)
	}
	c.Ops = append(c.Ops, when(measure(1, 0), 3, 0))
	if _, run, e := hold(t, c, nil, sure(3)); e != api.ErrCoins || !noRun(run) {
		t.Errorf("%v, %d", run, e)
	}
	if _, run, e := hold(t, c, flips(1), sure(3)); e != api.OK || run.Bits != 1 || run.Coins != 1 || run.Events[0].Num != 3 {
		t.Errorf("%v, %d", run, e)
	}
}

// P17.1: coins that aren't used count for nothing, whatever they are.
func TestUnusedCoins(t *testing.T) {
	s := source(3)
	for j := range 500 {
		c := s.circuit(3, 3, s.below(20), 3, 3)
		coins := s.coins(takers(c.Ops))
		_, run, e := hold(t, c, coins, told(uint64(j), 0))
		if e != api.OK {
			t.Fatalf("%v, %d", run, e)
		}
		more := append(slices.Clone(coins[:run.Coins]), s.coins(s.below(40))...)
		if _, again, e := hold(t, c, more, told(uint64(j), 0)); e != api.OK || !sameRun(again, run) {
			t.Fatalf("%v, %d with %v, and %v with %v", again, e, more, run, coins)
		}
	}
}

// P17.1: all conditions over three bits, with all that the bits can be, on each kind of operation.
func TestConditions(t *testing.T) {
	for bits := range uint64(8) {
		for mask := uint64(1); mask < 8; mask++ {
			for value := range uint64(8) {
				if value&^mask != 0 {
					continue
				}
				for _, o := range []api.Op{op("s", 3), reset(3), measure(3, 1)} {
					c := of(4, 3, measure(0, 0), measure(1, 1), measure(2, 2), when(o, mask, value), measure(0, 0))
					said, run, e := hold(t, c, flips(5), sure(bits))
					count := 4
					if o.Kind != api.OpGate && bits&mask == value {
						count = 5
					}
					if e != api.OK || len(run.Events) != count || run.Coins != count || run.Events[count-1].Num != takers(c.Ops)-1 {
						t.Fatalf("%v where the bits are %d: %v, %d", c.Ops[3], bits, run, e)
					}
					if done := said[6] != "weights 0"; done != (bits&mask == value) {
						t.Fatalf("%v where the bits are %d: done %v", c.Ops[3], bits, done)
					}
				}
			}
		}
	}
}

// P17.1: a condition asks the bits as they are at that moment, and not as they were or will be.
func TestConditionsAtThatMoment(t *testing.T) {
	c := of(2, 1, when(op("h", 0), 1, 0), when(op("x", 0), 1, 1), measure(0, 0), when(op("y", 0), 1, 1), when(op("z", 0), 1, 0), measure(1, 0), when(op("s", 0), 1, 0), when(op("t", 0), 1, 1))
	said, run, e := hold(t, c, flips(2), sure(1))
	if want := []string{"apply h[0]", "weights 0", "project 0 onto 1", "apply y[0]", "weights 1", "project 1 onto 0", "apply s[0]"}; e != api.OK || run.Bits != 0 || !slices.Equal(said, want) {
		t.Errorf("%q; %v, %d", said, run, e)
	}
}

// P17.1: a measurement makes its bit the outcome, whatever it was, and leaves all others; a reset writes none.
func TestBits(t *testing.T) {
	for bit := range 64 {
		all := uint64(math.MaxUint64)
		var ops []api.Op
		for j := range 64 {
			ops = append(ops, measure(1, j))
		}
		for _, c := range []struct {
			ops  []api.Op
			want uint64
		}{
			{[]api.Op{measure(1, bit)}, 1 << bit},
			{[]api.Op{measure(0, bit)}, 0},
			{[]api.Op{measure(1, bit), measure(0, bit)}, 0},
			{[]api.Op{measure(0, bit), measure(1, bit)}, 1 << bit},
			{[]api.Op{measure(1, bit), measure(1, bit), reset(1), reset(0)}, 1 << bit},
			{append(slices.Clone(ops), measure(0, bit)), all &^ (1 << bit)},
			{append(slices.Clone(ops), measure(1, bit), reset(0)), all},
			{append(slices.Clone(ops), when(measure(0, bit), all, all)), all &^ (1 << bit)},
			{append(slices.Clone(ops), when(measure(0, bit), 1<<bit, 0)), all},
			{append(slices.Clone(ops), measure(0, bit), when(measure(1, bit), 1<<bit, 0)), all},
			{[]api.Op{reset(1), reset(1)}, 0},
		} {
			if _, run, e := hold(t, of(2, 64, c.ops...), flips(len(c.ops)), sure(2)); e != api.OK || run.Bits != c.want {
				t.Fatalf("%v: %x, %d", c.ops, run.Bits, e)
			}
		}
	}
}

// P17.1: circuits at the limits, of 64 qubits and 4096 operations, are played like others.
func TestLimits(t *testing.T) {
	s, c := source(4), of(64, 64)
	for j := range api.MaxOps {
		c.Ops = append(c.Ops, pick(&s, measure(j%64, (j+5)%64), reset(j%64), measure(63, 63)))
	}
	for _, count := range []int{api.MaxOps - 1, api.MaxOps, api.MaxOps + 1, 3 * api.MaxOps} {
		_, run, e := hold(t, c, flips(count), sure(1<<63|0xf0f0))
		if count < api.MaxOps {
			if e != api.ErrCoins {
				t.Errorf("%d coins: %d", count, e)
			}
			continue
		}
		if last := len(run.Events) - 1; e != api.OK || run.Coins != api.MaxOps || last != api.MaxOps-1 || run.Events[last].Num != last {
			t.Errorf("%d coins: %d used, %d", count, run.Coins, e)
		}
	}
	gates := of(64, 0, slices.Repeat([]api.Op{op("cswap", 63, 0, 62)}, api.MaxOps)...)
	if said, run, e := hold(t, gates, nil, sure(0)); e != api.OK || !noRun(run) || len(said) != api.MaxOps || said[4095] != "apply cswap[63 0 62]" {
		t.Errorf("%d calls, %v, %d", len(said), run, e)
	}
}
