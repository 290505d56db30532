package opt_test

import (
	"fmt"
	"slices"
	"strconv"
	"strings"
	"testing"

	"cubit/api"
	"cubit/opt"
)

// ops reads operations from words: a gate's name and its qubits, a digit each (h0, cx01); m01, a measurement of qubit 0 into bit 1; r0, a reset. Behind it ? is the condition that bit 0 is 1, and ?6=2 that the bits under Mask 6 are Value 2.
func ops(text string) []api.Op {
	var list []api.Op
	for _, word := range strings.Fields(text) {
		word, condition, asks := strings.Cut(word, "?")
		o := plain(word)
		if asks {
			o = when(o, 1, 1)
		}
		if mask, value, ok := strings.Cut(condition, "="); ok {
			o = when(o, number(mask), number(value))
		}
		list = append(list, o)
	}
	return list
}

// plain reads an operation without a condition.
func plain(word string) api.Op {
	at := strings.IndexAny(word, "0123456789")
	var digits []int
	for _, d := range word[at:] {
		digits = append(digits, int(d-'0'))
	}
	switch name := word[:at]; name {
	case "m":
		return measure(digits[0], digits[1])
	case "r":
		return reset(digits[0])
	default:
		return op(name, digits...)
	}
}

func number(text string) uint64 {
	n, err := strconv.ParseUint(text, 10, 64)
	if err != nil {
		panic(err)
	}
	return n
}

// made is a circuit of three qubits and three bits.
func made(text string) api.Circuit { return of(3, 3, ops(text)...) }

// told writes operations as ops reads them, as far as one digit goes.
func told(c api.Circuit) string {
	var words []string
	for _, o := range c.Ops {
		word := o.Name
		switch o.Kind {
		case api.OpMeasure:
			word = "m"
		case api.OpReset:
			word = "r"
		}
		for _, q := range o.Qubits {
			word += strconv.Itoa(q)
		}
		if o.Kind == api.OpMeasure {
			word += strconv.Itoa(o.Bit)
		}
		if o.If && o.Mask == 1 && o.Value == 1 {
			word += "?"
		} else if o.If {
			word += fmt.Sprintf("?%d=%d", o.Mask, o.Value)
		}
		words = append(words, word)
	}
	return strings.Join(words, " ")
}

func op(name string, qubits ...int) api.Op {
	return api.Op{Kind: api.OpGate, Name: name, Qubits: qubits}
}

func measure(qubit, bit int) api.Op {
	return api.Op{Kind: api.OpMeasure, Qubits: []int{qubit}, Bit: bit}
}

func reset(qubit int) api.Op { return api.Op{Kind: api.OpReset, Qubits: []int{qubit}} }

// when is the operation under a condition.
func when(o api.Op, mask, value uint64) api.Op {
	o.If, o.Mask, o.Value = true, mask, value
	return o
}

func of(qubits, bits int, list ...api.Op) api.Circuit {
	return api.Circuit{Qubits: qubits, Bits: bits, Ops: list}
}

// same: are these the same circuits? (No list and an empty one are the same.)
func same(a, b api.Circuit) bool {
	return a.Qubits == b.Qubits && a.Bits == b.Bits && slices.EqualFunc(a.Ops, b.Ops, sameOp)
}

func sameOp(a, b api.Op) bool {
	return a.Kind == b.Kind && a.Name == b.Name && slices.Equal(a.Qubits, b.Qubits) && a.Bit == b.Bit && a.If == b.If && a.Mask == b.Mask && a.Value == b.Value
}

func none(c api.Circuit) bool { return c.Qubits == 0 && c.Bits == 0 && len(c.Ops) == 0 }

// few is a circuit's first operations, for a message.
func few(c api.Circuit) string { return told(of(0, 0, c.Ops[:min(len(c.Ops), 40)]...)) }

// step and run are the calls of a circuit that is taken.
func step(t *testing.T, c api.Circuit) (api.Circuit, bool) {
	t.Helper()
	d, more, e := opt.Step(c)
	if e != api.OK {
		t.Fatalf("Step of %s: %d", few(c), e)
	}
	return d, more
}

func run(t *testing.T, c api.Circuit) api.Circuit {
	t.Helper()
	d, e := opt.Run(c)
	if e != api.OK {
		t.Fatalf("Run of %s: %d", few(c), e)
	}
	return d
}

// A gateFact is what chapters 8 and 19 tell of a gate: swaps are the pairs of places whose qubits may be exchanged.
type gateFact struct {
	name          string
	qubits, halve int
	back          string
	turn          int
	swaps         [][2]int
}

var gates = []gateFact{
	{"i", 1, 0, "i", 0, nil}, {"x", 1, 0, "x", 0, nil}, {"y", 1, 0, "y", 0, nil}, {"z", 1, 0, "z", 4, nil}, {"h", 1, 1, "h", 0, nil},
	{"s", 1, 0, "sdg", 2, nil}, {"sdg", 1, 0, "s", 6, nil}, {"t", 1, 0, "tdg", 1, nil}, {"tdg", 1, 0, "t", 7, nil},
	{"v", 1, 1, "vdg", 0, nil}, {"vdg", 1, 1, "v", 0, nil}, {"w", 1, 0, "wdg", 0, nil}, {"wdg", 1, 0, "w", 0, nil},
	{"cx", 2, 0, "cx", 0, nil}, {"cy", 2, 0, "cy", 0, nil}, {"ch", 2, 1, "ch", 0, nil},
	{"cz", 2, 0, "cz", 0, [][2]int{{0, 1}}}, {"cs", 2, 0, "csdg", 0, [][2]int{{0, 1}}}, {"csdg", 2, 0, "cs", 0, [][2]int{{0, 1}}},
	{"swap", 2, 0, "swap", 0, [][2]int{{0, 1}}}, {"iswap", 2, 0, "iswapdg", 0, [][2]int{{0, 1}}}, {"iswapdg", 2, 0, "iswap", 0, [][2]int{{0, 1}}},
	{"ccx", 3, 0, "ccx", 0, [][2]int{{0, 1}}}, {"ccz", 3, 0, "ccz", 0, [][2]int{{0, 1}, {0, 2}, {1, 2}}}, {"cswap", 3, 0, "cswap", 0, [][2]int{{1, 2}}},
}

// factOf is a gate's fact; that of no gate is all nought.
func factOf(name string) gateFact {
	for _, f := range gates {
		if f.name == name {
			return f
		}
	}
	return gateFact{}
}

// lists are all lists of so many of n qubits, none twice.
func lists(n, many int) [][]int {
	if many == 0 {
		return [][]int{nil}
	}
	var all [][]int
	for _, list := range lists(n, many-1) {
		for q := range n {
			if !slices.Contains(list, q) {
				all = append(all, append(slices.Clone(list), q))
			}
		}
	}
	return all
}

// onAll is every gate on every list of n qubits.
func onAll(n int) []api.Op {
	var all []api.Op
	for _, f := range gates {
		for _, list := range lists(n, f.qubits) {
			all = append(all, op(f.name, list...))
		}
	}
	return all
}

// A source of circuits and coins: the same ones each time.
type source uint64

func (s *source) next() uint64 {
	*s = *s*6364136223846793005 + 1442695040888963407
	return uint64(*s) ^ uint64(*s)>>29
}

// below is a number from 0 to n - 1; the highest bits are taken, since the lowest ones repeat soon.
func (s *source) below(n int) int { return int((s.next() >> 33) % uint64(n)) }

// pick is one of a list.
func pick[V any](s *source, list ...V) V { return list[s.below(len(list))] }

// qubits are so many of n, none twice.
func (s *source) qubits(n, many int) []int {
	var list []int
	for len(list) < many {
		if q := s.below(n); !slices.Contains(list, q) {
			list = append(list, q)
		}
	}
	return list
}

// A wish is what sort of circuit is wanted: of ten operations so many take a coin, have a condition, or take back or repeat one of those just ahead; left is how often they may halve.
type wish struct {
	qubits, bits, ops         int
	taking, conditions, again int
	left                      int
}

// circuit is one that circuit.Check takes. Its gates are those on one qubit as often as all others together, so that rules fit.
func (s *source) circuit(w wish) api.Circuit {
	c := of(w.qubits, w.bits)
	for len(c.Ops) < w.ops && w.qubits > 0 {
		list := []api.Op{s.fresh(w)}
		if len(c.Ops) > 0 && s.below(10) < w.again {
			list = []api.Op{s.again(c.Ops)}
		}
		if s.below(40) < w.again {
			list = s.turned(w)
		}
		half := 0
		for _, o := range list {
			half += factOf(o.Name).halve
		}
		if half <= w.left {
			w.left -= half
			c.Ops = append(c.Ops, list...)
		}
	}
	return c
}

// turned is a gate between two h, now and then with another operation among them.
func (s *source) turned(w wish) []api.Op {
	o := s.fresh(w)
	o.Kind, o.Bit, o.Qubits = api.OpGate, 0, o.Qubits[:1]
	list := []api.Op{o, o, o}
	for j, name := range []string{"h", pick(s, "x", "z"), "h"} {
		list[j].Name = name
		list[j].Qubits = slices.Clone(o.Qubits)
	}
	if s.below(2) == 0 {
		list = slices.Insert(list, 1+s.below(2), s.fresh(w))
	}
	return list
}

// fresh is an operation that hangs on none ahead.
func (s *source) fresh(w wish) api.Op {
	var o api.Op
	switch f := pick(s, gates...); {
	case s.below(10) < w.taking && w.bits > 0 && s.below(3) > 0:
		o = measure(s.below(w.qubits), s.below(w.bits))
	case s.below(10) < w.taking:
		o = reset(s.below(w.qubits))
	case f.qubits > w.qubits || s.below(2) == 0:
		o = op(pick(s, "h", "x", "z", "t", "s", "tdg", "sdg", "i", "h"), s.below(w.qubits))
	default:
		o = op(f.name, s.qubits(w.qubits, f.qubits)...)
	}
	if w.bits > 0 && s.below(10) < w.conditions {
		mask := uint64(1)<<s.below(w.bits) | uint64(s.below(2))<<s.below(w.bits)
		o = when(o, mask, mask&s.next())
	}
	return o
}

// again is one of the last few operations again: mostly its inverse, now and then on its qubits in another order, or another gate in its place.
func (s *source) again(list []api.Op) api.Op {
	o := list[len(list)-1-s.below(min(len(list), 4))]
	o.Qubits = slices.Clone(o.Qubits)
	if o.Kind != api.OpGate {
		return o
	}
	if s.below(4) > 0 {
		o.Name = factOf(o.Name).back
	}
	if n := len(o.Qubits); n > 1 && s.below(2) == 0 {
		a, b := s.below(n), s.below(n)
		o.Qubits[a], o.Qubits[b] = o.Qubits[b], o.Qubits[a]
	}
	if len(o.Qubits) == 1 && s.below(3) == 0 {
		o.Name = pick(s, "h", "x", "z", "t", "s", "tdg", "sdg")
	}
	return o
}

// coins are so many right ones, often at either end.
func (s *source) coins(count int) []api.Coin {
	var list []api.Coin
	for range count {
		n := pick(s, 0, 1, 1, 2, 3, api.MaxCoin)
		last := uint64(1)<<n - 1
		list = append(list, api.Coin{Num: pick(s, 0, last, last/2, s.next()&last), Len: n})
	}
	return list
}

// takers are the operations that take a coin, if they are done.
func takers(c api.Circuit) []api.Op {
	return slices.DeleteFunc(slices.Clone(c.Ops), func(o api.Op) bool { return o.Kind == api.OpGate })
}
