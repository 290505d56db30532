package world_test

import (
	"fmt"
	"slices"
	"testing"

	"cubit/api"
	"cubit/circuit"
	"cubit/coin"
	"cubit/world"
)

// An answer is what a scribe tells of a call; of Apply and Project its error alone.
type answer struct {
	one, all api.Root
	e        api.Errno
}

// A teller says what is answered to the call of this number, from 0 on. It hangs on nothing else, so that a run can be held against the words.
type teller func(number int, call string) answer

// A scribe is an engine that writes down its calls, keeps the lists that it is handed, and answers what it is told.
type scribe struct {
	said  []string
	lists [][]int
	tell  teller
	then  func() // behind each call, if there is something to do
}

func (s *scribe) say(call string) answer {
	number := len(s.said)
	s.said = append(s.said, call)
	if s.then != nil {
		s.then()
	}
	if s.tell == nil {
		return answer{one: half, all: whole}
	}
	return s.tell(number, call)
}

// Apply writes over the list, its spare room included: it is the engine's own.
func (s *scribe) Apply(name string, qubits []int) api.Errno {
	call := applied(name, qubits)
	s.lists = append(s.lists, qubits)
	spoil(qubits, -1-len(s.said))
	return s.say(call).e
}

func (s *scribe) Weights(qubit int) (one, all api.Root, e api.Errno) {
	a := s.say(weighed(qubit))
	return a.one, a.all, a.e
}

func (s *scribe) Project(qubit, bit int) api.Errno { return s.say(projected(qubit, bit)).e }

func applied(name string, qubits []int) string { return fmt.Sprint("apply ", name, qubits) }
func weighed(qubit int) string                 { return fmt.Sprint("weights ", qubit) }
func projected(qubit, bit int) string          { return fmt.Sprint("project ", qubit, " onto ", bit) }

// spoil writes over all that a list holds, with its spare room.
func spoil(list []int, mark int) {
	list = list[:cap(list)]
	for j := range list {
		list[j] = mark
	}
}

var (
	whole = api.Root{P: 1}
	half  = api.Root{P: 1, K: 1}
	null  = api.Root{}
)

// words is what Play does and answers by the chapter, if the engine tells this.
func words(c api.Circuit, coins []api.Coin, tell teller) ([]string, api.Run, api.Errno) {
	if e := refused(c, coins); e != api.OK {
		return nil, api.Run{}, e
	}
	var said []string
	ask := func(call string) answer {
		said = append(said, call)
		return tell(len(said)-1, call)
	}
	var bits [64]uint64
	var events []api.Event
	for j, o := range c.Ops {
		if !holds(o, bits) {
			continue
		}
		if o.Kind == api.OpGate {
			if e := ask(applied(o.Name, o.Qubits)).e; e != api.OK {
				return said, api.Run{}, e
			}
			continue
		}
		if len(events) == len(coins) {
			return said, api.Run{}, api.ErrCoins
		}
		q := o.Qubits[0]
		a := ask(weighed(q))
		if a.e != api.OK {
			return said, api.Run{}, a.e
		}
		outcome, certain, e := coin.Toss(coins[len(events)], a.one, a.all)
		if e != api.OK {
			return said, api.Run{}, e
		}
		if e = ask(projected(q, outcome)).e; e != api.OK {
			return said, api.Run{}, e
		}
		events = append(events, api.Event{Num: takers(c.Ops[:j]), Qubit: q, Outcome: outcome, Certain: certain})
		if o.Kind == api.OpMeasure {
			bits[o.Bit] = uint64(outcome)
		} else if outcome == 1 {
			if e = ask(applied("x", []int{q})).e; e != api.OK {
				return said, api.Run{}, e
			}
		}
	}
	return said, api.Run{Bits: number(bits), Events: events, Coins: len(events)}, api.OK
}

// refused is what Play tells ahead of all operations, and Run too, but for the error of Dense.
func refused(c api.Circuit, coins []api.Coin) api.Errno {
	if _, e := circuit.Check(c); e != api.OK {
		return e
	}
	for _, one := range coins {
		if e := coin.Check(one); e != api.OK {
			return e
		}
	}
	return api.OK
}

// holds: are all bits under the mask as they should be?
func holds(o api.Op, bits [64]uint64) bool {
	for j, bit := range bits {
		if o.If && o.Mask>>j&1 == 1 && o.Value>>j&1 != bit {
			return false
		}
	}
	return true
}

func number(bits [64]uint64) uint64 {
	var n uint64
	for j, bit := range bits {
		n |= bit << j
	}
	return n
}

// hold holds Play on a scribe against the words.
func hold(t *testing.T, c api.Circuit, coins []api.Coin, tell teller) ([]string, api.Run, api.Errno) {
	t.Helper()
	said, run, e := words(c, coins, tell)
	s := &scribe{tell: tell}
	got, f := world.Play(s, c, coins)
	if !slices.Equal(s.said, said) {
		t.Fatalf("%v with %v: the calls %q, not %q", c, coins, s.said, said)
	}
	if f != e || !sameRun(got, run) {
		t.Fatalf("%v with %v: %v, %d, not %v, %d", c, coins, got, f, run, e)
	}
	return said, run, e
}
