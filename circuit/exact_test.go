package circuit_test

import (
	"math/bits"
	"reflect"
	"slices"
	"testing"

	"cubit/api"
	"cubit/circuit"
)

// A source makes numbers, the same ones in each run.
type source uint64

// next is a number below n.
func (s *source) next(n int) int {
	*s = *s*6364136223846793005 + 1442695040888963407
	return int(uint64(*s) >> 33 % uint64(n))
}

// one is one of a list.
func one[V any](s *source, list ...V) V { return list[s.next(len(list))] }

// shuffled is the numbers below n in some order.
func (s *source) shuffled(n int) []int {
	list := make([]int, n)
	for j := range list {
		k := s.next(j + 1)
		list[j] = list[k]
		list[k] = j
	}
	return list
}

// mask is some bits of so many.
func (s *source) mask(count int) uint64 {
	var m uint64
	for range 1 + s.next(3) {
		m |= 1 << s.next(count)
	}
	return m
}

// op is an operation for so many qubits and bits; gates alone, if that is wanted.
func (s *source) op(qubits, count int, gates bool) api.Op {
	var op api.Op
	f := facts[s.next(len(facts))]
	switch k := s.next(8); {
	case !gates && k == 0 && count > 0:
		op = measure(s.next(qubits), s.next(count))
	case !gates && k == 1:
		op = reset(s.next(qubits))
	case f.qubits > qubits:
		op = gate("h", s.next(qubits))
	default:
		op = gate(f.name, s.shuffled(qubits)[:f.qubits]...)
	}
	if count > 0 && s.next(3) == 0 {
		m := s.mask(count)
		op = when(op, m, m&uint64(s.next(1<<30)))
	}
	return op
}

// circuit is one of some operations.
func (s *source) circuit(ops int, gates bool) api.Circuit {
	c := api.Circuit{Qubits: 1 + s.next(6), Bits: s.next(5)}
	left := api.MaxHalf
	for range ops {
		op := s.op(c.Qubits, c.Bits, gates)
		if factOf(op.Name).halve > left {
			op = whole(op)
		}
		left -= factOf(op.Name).halve
		c.Ops = append(c.Ops, op)
	}
	return c
}

// whole is a gate that doesn't halve in the place of one that does, all else as it is.
func whole(op api.Op) api.Op {
	op.Name = []string{"", "x", "cx"}[len(op.Qubits)]
	return op
}

// spoil changes some field of some operation, or the numbers of qubits and bits.
func (s *source) spoil(c api.Circuit) api.Circuit {
	c.Ops = slices.Clone(c.Ops)
	if s.next(10) == 0 {
		c.Qubits = one(s, -1, 0, 1, 2, 64, 65)
	}
	if s.next(10) == 0 {
		c.Bits = one(s, -1, 0, 1, 2, 64, 65)
	}
	if len(c.Ops) == 0 {
		return c
	}
	for range 1 + s.next(3) {
		op := &c.Ops[s.next(len(c.Ops))]
		switch s.next(7) {
		case 0:
			op.Kind = one(s, 0, 1, 2, 3, 4, -1)
		case 1:
			op.Name = one(s, "", "h", "cx", "ccx", "foo", "X", "v", "ch")
		case 2:
			op.Qubits = one(s, nil, []int{0}, []int{0, 1}, []int{1, 1}, []int{0, 1, 2}, []int{2, 1, 2}, []int{-1}, []int{c.Qubits}, []int{0, c.Qubits})
		case 3:
			op.Bit = one(s, 0, 1, -1, c.Bits, c.Bits-1)
		case 4:
			op.If = !op.If
		case 5:
			op.Mask = one[uint64](s, 0, 1, 2, 3, 8, 16, 1<<63)
		case 6:
			op.Value = one[uint64](s, 0, 1, 2, 3, 8, 16, 1<<63)
		}
	}
	return c
}

// fault is the first error that holds for an operation by itself, by the words of the chapter's list.
func fault(c api.Circuit, op api.Op) api.Errno {
	isGate, isMeasure, isReset := op.Kind == 1, op.Kind == 2, op.Kind == 3
	if !isGate && !isMeasure && !isReset {
		return api.ErrOp
	}
	if !op.If && (op.Mask != 0 || op.Value != 0) {
		return api.ErrOp
	}
	if op.If && (op.Mask == 0 || bits.Len64(op.Mask) > c.Bits || op.Value|op.Mask != op.Mask) {
		return api.ErrOp
	}
	if !isGate && op.Name != "" || !isMeasure && op.Bit != 0 {
		return api.ErrOp
	}
	wanted := 1
	if isGate {
		if wanted = factOf(op.Name).qubits; wanted == 0 {
			return api.ErrGate
		}
	}
	if len(op.Qubits) != wanted {
		return api.ErrArity
	}
	if slices.Min(op.Qubits) < 0 || slices.Max(op.Qubits) >= c.Qubits || isMeasure && (op.Bit < 0 || op.Bit >= c.Bits) {
		return api.ErrIndex
	}
	if sorted := slices.Sorted(slices.Values(op.Qubits)); len(slices.Compact(sorted)) != wanted {
		return api.ErrSame
	}
	return api.OK
}

// checked is what Check is to tell, and the halvings.
func checked(c api.Circuit) (int, int, api.Errno) {
	if c.Qubits < 0 || c.Qubits > 64 || c.Bits < 0 || c.Bits > 64 {
		return 0, 0, api.ErrArg
	}
	if len(c.Ops) > 4096 {
		return 0, 0, api.ErrMany
	}
	halvings := 0
	for j, op := range c.Ops {
		if e := fault(c, op); e != api.OK {
			return j, 0, e
		}
		if op.Kind == 1 {
			halvings += factOf(op.Name).halve
		}
		if halvings > 36 {
			return j, 0, api.ErrRoots
		}
	}
	return 0, halvings, api.OK
}

// bound: are two operations, by the chapter's words?
func bound(a, b api.Op) bool {
	for _, q := range a.Qubits {
		if slices.Contains(b.Qubits, q) {
			return true
		}
	}
	writes := func(x api.Op, bit int) bool { return x.Kind == api.OpMeasure && x.Bit == bit }
	reads := func(x api.Op, bit int) bool { return x.If && x.Mask&(1<<bit) != 0 }
	for bit := range 64 {
		if writes(a, bit) && (writes(b, bit) || reads(b, bit)) || writes(b, bit) && reads(a, bit) {
			return true
		}
	}
	coin := func(x api.Op) bool { return x.Kind == api.OpMeasure || x.Kind == api.OpReset }
	return coin(a) && coin(b)
}

// steps are the operations by their steps, each held against all ahead.
func steps(c api.Circuit) [][]int {
	var list [][]int
	of := make([]int, len(c.Ops))
	for j := range c.Ops {
		for k := range j {
			if bound(c.Ops[k], c.Ops[j]) {
				of[j] = max(of[j], of[k]+1)
			}
		}
		if of[j] == len(list) {
			list = append(list, nil)
		}
		list[of[j]] = append(list[of[j]], j)
	}
	return list
}

// kept: is it an order of all operations, and does none stand ahead of one to which it is bound and that is ahead of it?
func kept(c api.Circuit, list []int) bool {
	if len(list) != len(c.Ops) {
		return false
	}
	for j, n := range slices.Sorted(slices.Values(list)) {
		if n != j {
			return false
		}
	}
	for i, first := range list {
		for _, second := range list[i+1:] {
			if second < first && bound(c.Ops[first], c.Ops[second]) {
				return false
			}
		}
	}
	return true
}

// asked holds all calls of a circuit against what the chapter's words tell. It tells the error.
func asked(t *testing.T, c api.Circuit) api.Errno {
	t.Helper()
	at, halvings, want := checked(c)
	if want != api.OK {
		refused(t, c, at, want)
		return want
	}
	clean, clifford, gates := true, true, true
	for _, op := range c.Ops {
		gates = gates && op.Kind == 1
		clean = clean && op.Kind == 1 && !op.If
		clifford = clifford && (op.Kind != 1 || factOf(op.Name).clifford)
	}
	if n, e := circuit.Check(c); n != 0 || e != api.OK {
		t.Fatalf("Check(%v): %d, %d", c, n, e)
	}
	if n := halves(t, c); n != halvings {
		t.Fatalf("Halves(%v): %d, not %d", c, n, halvings)
	}
	if b, e := circuit.Clean(c); b != clean || e != api.OK {
		t.Fatalf("Clean(%v): %v, %d", c, b, e)
	}
	if b, e := circuit.Clifford(c); b != clifford || e != api.OK {
		t.Fatalf("Clifford(%v): %v, %d", c, b, e)
	}
	if l := layers(t, c); !sameLayers(l, steps(c)) {
		t.Fatalf("Layers(%v): %v, not %v", c, l, steps(c))
	}
	back, e := circuit.Inverse(c)
	if !gates {
		if e != api.ErrBack || !reflect.DeepEqual(back, api.Circuit{}) {
			t.Fatalf("Inverse(%v): %v, %d", c, back, e)
		}
		return api.OK
	}
	turned := api.Circuit{Qubits: c.Qubits, Bits: c.Bits}
	for j := len(c.Ops) - 1; j >= 0; j-- {
		op := c.Ops[j]
		op.Name = factOf(op.Name).back
		turned.Ops = append(turned.Ops, op)
	}
	if e != api.OK || !same(back, turned) {
		t.Fatalf("Inverse(%v): %v, %d", c, back, e)
	}
	return api.OK
}

// P11.1: circuits of all sorts.
func TestSomeCircuits(t *testing.T) {
	s := source(1)
	for j := range 2000 {
		if e := asked(t, s.circuit(j%40, j%3 == 0)); e != api.OK {
			t.Fatalf("circuit %d: %d", j, e)
		}
	}
	for j := range 5 {
		asked(t, s.circuit(600, j%2 == 0))
	}
}

// P11.1: circuits with some fields changed.
func TestSpoiltCircuits(t *testing.T) {
	s := source(2)
	found := map[api.Errno]int{}
	for j := range 10000 {
		found[asked(t, s.spoil(s.circuit(1+j%12, j%3 == 0)))]++
		if t.Failed() {
			t.FailNow()
		}
	}
	for _, e := range []api.Errno{api.OK, api.ErrArg, api.ErrOp, api.ErrGate, api.ErrArity, api.ErrIndex, api.ErrSame} {
		if found[e] < 30 {
			t.Errorf("found %v", found)
		}
	}
}

// P11.1: circuits with about as many halvings as can be.
func TestAboutMaxHalf(t *testing.T) {
	s := source(3)
	found := map[api.Errno]int{}
	for range 2000 {
		c := of()
		for range 60 {
			c.Ops = append(c.Ops, one(&s, gate("h", 0), gate("v", 1), when(gate("vdg", 2), 1, 1), gate("ch", 0, 2), gate("t", 0), measure(1, 1)))
		}
		found[asked(t, c)]++
	}
	if found[api.OK] < 100 || found[api.ErrRoots] < 1000 {
		t.Errorf("found %v", found)
	}
}

// P11.1: each operation of a pool beside each other one, and each three of them.
func TestAllSmallCircuits(t *testing.T) {
	pool := []api.Op{
		gate("h", 0), gate("t", 1), gate("cx", 0, 2), gate("ccx", 2, 1, 0), measure(0, 0), measure(1, 0), measure(2, 1), reset(0), reset(2),
		when(gate("x", 0), 1, 1), when(gate("s", 1), 1, 0), when(gate("cz", 1, 2), 2, 2), when(gate("y", 2), 3, 1), when(measure(0, 1), 1, 1), when(measure(1, 0), 1, 0), when(reset(2), 2, 2),
	}
	orders := [][]int{{0, 1, 2}, {0, 2, 1}, {1, 0, 2}, {1, 2, 0}, {2, 0, 1}, {2, 1, 0}}
	for _, a := range pool {
		for _, b := range pool {
			for _, d := range pool {
				c := of(a, b, d)
				asked(t, c)
				for _, list := range orders {
					ordered(t, c, list)
				}
			}
		}
	}
}

// ordered holds Order against the chapter's words, and tells whether it is taken.
func ordered(t *testing.T, c api.Circuit, list []int) bool {
	t.Helper()
	got, e := circuit.Order(c, list)
	if !kept(c, list) {
		if e != api.ErrArg || !reflect.DeepEqual(got, api.Circuit{}) {
			t.Fatalf("Order(%v, %v): %v, %d", c, list, got, e)
		}
		return false
	}
	want := api.Circuit{Qubits: c.Qubits, Bits: c.Bits}
	for _, j := range list {
		want.Ops = append(want.Ops, c.Ops[j])
	}
	if e != api.OK || !same(got, want) {
		t.Fatalf("Order(%v, %v): %v, %d", c, list, got, e)
	}
	return true
}

// lately exchanges some neighbours of a list.
func (s *source) lately(list []int) []int {
	list = slices.Clone(list)
	for range s.next(6) {
		if len(list) > 1 {
			j := s.next(len(list) - 1)
			list[j], list[j+1] = list[j+1], list[j]
		}
	}
	return list
}

// P11.1: Order by lists of all sorts.
func TestSomeOrders(t *testing.T) {
	s := source(4)
	taken, other := 0, 0
	for j := range 6000 {
		c := s.circuit(j%14, j%3 == 0)
		list := s.shuffled(len(c.Ops))
		if j%2 == 0 {
			list = s.lately(slices.Sorted(slices.Values(list)))
		}
		if j%7 == 0 && len(list) > 0 {
			list[s.next(len(list))] = s.next(len(list)+2) - 1
		}
		if ordered(t, c, list) {
			taken++
		} else {
			other++
		}
	}
	if taken < 1000 || other < 1000 {
		t.Errorf("%d taken, %d refused", taken, other)
	}
}
