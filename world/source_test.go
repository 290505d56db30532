package world_test

import (
	"slices"

	"cubit/api"
	"cubit/gate"
)

func op(name string, qubits ...int) api.Op {
	return api.Op{Kind: api.OpGate, Name: name, Qubits: qubits}
}

func measure(qubit, bit int) api.Op {
	return api.Op{Kind: api.OpMeasure, Qubits: []int{qubit}, Bit: bit}
}

func reset(qubit int) api.Op { return api.Op{Kind: api.OpReset, Qubits: []int{qubit}} }

// when is the operation under a condition.
func when(op api.Op, mask, value uint64) api.Op {
	op.If, op.Mask, op.Value = true, mask, value
	return op
}

// always is the operation without its condition.
func always(op api.Op) api.Op {
	op.If, op.Mask, op.Value = false, 0, 0
	return op
}

func of(qubits, bits int, ops ...api.Op) api.Circuit {
	return api.Circuit{Qubits: qubits, Bits: bits, Ops: ops}
}

// flips are so many coins 0/1: they are right, and with a weight that is certain any coin will do.
func flips(count int) []api.Coin { return make([]api.Coin, count) }

// takers is how many of the operations take a coin, if they are done.
func takers(ops []api.Op) int {
	count := 0
	for _, op := range ops {
		if op.Kind != api.OpGate {
			count++
		}
	}
	return count
}

// found is an event whose outcome another coin could have changed, surely one that was certain.
func found(num, qubit, outcome int) api.Event {
	return api.Event{Num: num, Qubit: qubit, Outcome: outcome}
}

func surely(num, qubit, outcome int) api.Event {
	return api.Event{Num: num, Qubit: qubit, Outcome: outcome, Certain: true}
}

// ran is a run with these events, each of which has used a coin.
func ran(bits uint64, events ...api.Event) api.Run {
	return api.Run{Bits: bits, Events: events, Coins: len(events)}
}

func sameRun(a, b api.Run) bool {
	return a.Bits == b.Bits && a.Coins == b.Coins && slices.Equal(a.Events, b.Events)
}

func noRun(r api.Run) bool { return r.Bits == 0 && r.Coins == 0 && len(r.Events) == 0 }

func sameState(a, b api.State) bool {
	return a.N == b.N && a.K == b.K && slices.Equal(a.Amps, b.Amps)
}

func noState(s api.State) bool { return s.N == 0 && s.K == 0 && len(s.Amps) == 0 }

// A source of circuits and coins: the same ones each time.
type source uint64

func (s *source) next() uint64 {
	*s = *s*6364136223846793005 + 1442695040888963407
	return uint64(*s) ^ uint64(*s)>>29
}

// below is a number from 0 to n - 1; the highest bits are taken, since the lowest ones repeat soon.
func (s *source) below(n int) int { return int((s.next() >> 33) % uint64(n)) }

// pick is one of a list.
func pick[V any](s *source, list ...V) V { return list[s.below(len(list))] }

// qubits are so many of n, none twice.
func (s *source) qubits(n, many int) []int {
	var list []int
	for len(list) < many {
		if q := s.below(n); !slices.Contains(list, q) {
			list = append(list, q)
		}
	}
	return list
}

// gate is one for n qubits, 1 or more, that halves no more often than left.
func (s *source) gate(n, left int) api.Op {
	names := gate.Names()
	for {
		if name := pick(s, names...); gate.Arity(name) <= n && gate.Halves(name) <= left {
			return op(name, s.qubits(n, gate.Arity(name))...)
		}
	}
}

// mask is some bits of so many, 1 or more.
func (s *source) mask(bits int) uint64 {
	var m uint64
	for range 1 + s.below(3) {
		m |= 1 << s.below(bits)
	}
	return m
}

// op is an operation: of ten so many take a coin, and so many have a condition.
func (s *source) op(qubits, bits, left, taking, conditions int) api.Op {
	var o api.Op
	switch {
	case s.below(10) >= taking:
		o = s.gate(qubits, left)
	case bits > 0 && s.below(3) > 0:
		o = measure(s.below(qubits), s.below(bits))
	default:
		o = reset(s.below(qubits))
	}
	if bits > 0 && s.below(10) < conditions {
		m := s.mask(bits)
		o = when(o, m, m&s.next())
	}
	return o
}

// circuit is one of so many operations that circuit.Check takes. Half of the gates that are on one qubit become h, as long as there may be more: else most outcomes would be certain.
func (s *source) circuit(qubits, bits, ops, taking, conditions int) api.Circuit {
	c := of(qubits, bits)
	left := api.MaxHalf
	for len(c.Ops) < ops && qubits > 0 {
		o := s.op(qubits, bits, left, taking, conditions)
		if o.Kind == api.OpGate && len(o.Qubits) == 1 && left > 0 && s.below(2) == 0 {
			o.Name = "h"
		}
		if o.Kind == api.OpGate {
			left -= gate.Halves(o.Name)
		}
		c.Ops = append(c.Ops, o)
	}
	return c
}

// coin is a right one, often at either end.
func (s *source) coin() api.Coin {
	n := pick(s, 0, 1, 2, 3, 15, api.MaxCoin, s.below(api.MaxCoin+1))
	last := uint64(1)<<n - 1
	return api.Coin{Num: pick(s, 0, last, last/2, min(last/2+1, last), s.next()&last), Len: n}
}

func (s *source) coins(count int) []api.Coin {
	var list []api.Coin
	for range count {
		list = append(list, s.coin())
	}
	return list
}

// wrongCoins are none that coin.Check takes.
var wrongCoins = []api.Coin{
	{Num: 1, Len: 0}, {Num: 2, Len: 1}, {Num: 1 << 16, Len: 16}, {Num: 0, Len: 17}, {Num: 0, Len: -1}, {Num: 1<<64 - 1, Len: 3}, {Num: 0, Len: 64}, {Num: 0, Len: -1 << 63}, {Num: 0, Len: 1<<63 - 1},
}
