package path_test

import (
	"math"
	"slices"
	"testing"

	"cubit/amp"
	"cubit/api"
	"cubit/path"
)

// The functions are as the chapter has them.
var (
	_ func(api.Circuit, uint64, uint64) (api.Amp, api.Errno) = path.Amp
	_ func(api.Circuit, uint64) (api.State, api.Errno)       = path.State
	_ func(api.Circuit) (int, api.Errno)                     = path.Count
)

func op(name string, qubits ...int) api.Op {
	return api.Op{Kind: api.OpGate, Name: name, Qubits: qubits}
}

func circuitOf(qubits int, ops ...api.Op) api.Circuit { return api.Circuit{Qubits: qubits, Ops: ops} }

// times is an operation so often.
func times(many int, op api.Op) []api.Op { return slices.Repeat([]api.Op{op}, many) }

// whole is an element without w.
func whole(a complex128) api.Ring { return api.Ring{A: a} }

// over is a number without w over the square root of 2 to the power k.
func over(k int, a complex128) api.Amp { return api.Amp{R: whole(a), K: k} }

// numbers is a state of elements without w.
func numbers(k int, list ...complex128) api.State {
	s := api.State{K: k}
	for _, a := range list {
		s.Amps = append(s.Amps, whole(a))
	}
	for 1<<s.N < len(list) {
		s.N++
	}
	return s
}

// sameNumber: the same bits, so that -0 is not 0.
func sameNumber(x, y complex128) bool {
	return math.Float64bits(real(x)) == math.Float64bits(real(y)) && math.Float64bits(imag(x)) == math.Float64bits(imag(y))
}

func sameElement(r, s api.Ring) bool { return sameNumber(r.A, s.A) && sameNumber(r.B, s.B) }

func sameAmp(a, b api.Amp) bool { return sameElement(a.R, b.R) && a.K == b.K }

// same: are these the same states, bit by bit? (No list and an empty one are the same.)
func same(a, b api.State) bool {
	return a.N == b.N && a.K == b.K && slices.EqualFunc(a.Amps, b.Amps, sameElement)
}

// few is a state's first elements, for a message.
func few(s api.State) api.State {
	s.Amps = s.Amps[:min(len(s.Amps), 16)]
	return s
}

// ampOf is what Amp answers with OK, in its one form.
func ampOf(t *testing.T, c api.Circuit, from, to uint64) api.Amp {
	t.Helper()
	a, e := path.Amp(c, from, to)
	if e != api.OK {
		t.Fatalf("Amp(%v, %d, %d): %d", c, from, to, e)
	}
	if f := amp.Check(a); f != api.OK {
		t.Fatalf("Amp(%v, %d, %d): %v, which amp.Check refuses with %d", c, from, to, a, f)
	}
	return a
}

// leads asks for an amplitude.
func leads(t *testing.T, c api.Circuit, from, to uint64, want api.Amp) {
	t.Helper()
	if a := ampOf(t, c, from, to); !sameAmp(a, want) {
		t.Errorf("Amp(%v, %d, %d): %v, not %v", c, from, to, a, want)
	}
}

// comes asks for a state.
func comes(t *testing.T, c api.Circuit, from uint64, want api.State) {
	t.Helper()
	if s, e := path.State(c, from); e != api.OK || !same(s, want) {
		t.Errorf("State(%v, %d): %v, %d, not %v", c, from, few(s), e, few(want))
	}
}

// counts asks for a number of paths.
func counts(t *testing.T, c api.Circuit, want int) {
	t.Helper()
	if n, e := path.Count(c); n != want || e != api.OK {
		t.Errorf("Count(%v): %d, %d, not %d", c, n, e, want)
	}
}

func TestNumbersOfTheChapter(t *testing.T) {
	if api.ErrArg != 2 || api.ErrMany != 115 || api.MaxPaths != 1<<16 || api.MaxQubits != 10 || api.MaxRows != 64 || api.MaxHalf != 36 {
		t.Error("the errors or limits are not the document's")
	}
}

// The chapter's examples.
func TestExamples(t *testing.T) {
	none := circuitOf(1)
	leads(t, none, 0, 0, over(0, 1))
	leads(t, none, 0, 1, api.Amp{})
	h := op("h", 0)
	leads(t, circuitOf(1, h), 1, 1, over(1, -1))
	leads(t, circuitOf(1, h, h), 0, 0, over(0, 1))
	leads(t, circuitOf(1, h, h), 0, 1, api.Amp{})
	pair := circuitOf(2, h, op("cx", 0, 1))
	comes(t, pair, 0, numbers(1, 1, 0, 0, 1))
	counts(t, pair, 2)
	refuse(t, circuitOf(1, times(17, h)...), api.ErrMany)
	refuse(t, api.Circuit{Qubits: 1, Bits: 1, Ops: []api.Op{measure(0, 0)}}, api.ErrArg)
}

// The document's examples of the whole that are circuits of gates alone.
func TestExamplesOfTheWhole(t *testing.T) {
	h := op("h", 0)
	comes(t, circuitOf(1, h), 0, numbers(1, 1, 1))
	comes(t, circuitOf(1, h, h), 0, numbers(0, 1, 0))
	for from := range uint64(2) {
		for to := range uint64(2) {
			leads(t, circuitOf(1, op("t", 0), op("t", 0)), from, to, ampOf(t, circuitOf(1, op("s", 0)), from, to))
			leads(t, circuitOf(1, times(8, op("w", 0))...), from, to, ampOf(t, circuitOf(1), from, to))
		}
	}
	leads(t, circuitOf(1, op("t", 0)), 1, 1, api.Amp{R: api.Ring{B: 1}})
	refuse(t, circuitOf(2, append(times(18, h), times(19, op("h", 1))...)...), api.ErrRoots)
}

// P15.1: no operations lead each basis state to itself, by the one path that there is; of no qubits too.
func TestNoOperations(t *testing.T) {
	for n := range 65 {
		for _, ops := range [][]api.Op{nil, {}} {
			for _, bits := range []int{0, 64} {
				c := api.Circuit{Qubits: n, Bits: bits, Ops: ops}
				counts(t, c, 1)
				top := uint64(1)<<n - 1
				leads(t, c, 0, 0, over(0, 1))
				leads(t, c, top, top, over(0, 1))
				if n > 0 {
					leads(t, c, 0, top, api.Amp{})
					leads(t, c, top, top>>1, api.Amp{})
				}
				if n <= 10 {
					s := api.State{N: n, Amps: make([]api.Ring, 1<<n)}
					s.Amps[top] = whole(1)
					comes(t, c, top, s)
				}
			}
		}
	}
}

// P15.1: circuits by hand.
func TestByHand(t *testing.T) {
	h, x, z := op("h", 0), op("x", 0), op("z", 0)
	for _, c := range []struct {
		c        api.Circuit
		from, to uint64
		want     api.Amp
	}{
		// one gate's way against the other's: h z h is x, h x h is z
		{circuitOf(1, h, z, h), 0, 1, over(0, 1)},
		{circuitOf(1, h, z, h), 0, 0, api.Amp{}},
		{circuitOf(1, h, x, h), 1, 1, over(0, -1)},
		{circuitOf(1, h, op("t", 0), h), 0, 0, api.Amp{R: api.Ring{A: 1, B: 1}, K: 2}},
		{circuitOf(1, h, op("t", 0), h), 0, 1, api.Amp{R: api.Ring{A: 1, B: -1}, K: 2}},
		// h s h: (1 + i)/2 is w over the square root of 2
		{circuitOf(1, h, op("s", 0), h), 0, 0, api.Amp{R: api.Ring{B: 1}, K: 1}},
		{circuitOf(1, h, op("s", 0), h), 0, 1, api.Amp{R: api.Ring{B: -1i}, K: 1}},
		{circuitOf(1, op("v", 0), op("v", 0)), 0, 1, over(0, 1)},
		{circuitOf(1, op("v", 0), op("v", 0)), 0, 0, api.Amp{}},
		{circuitOf(1, op("v", 0), op("vdg", 0)), 1, 1, over(0, 1)},
		// the order of the operations: s and then x, x and then s
		{circuitOf(1, op("s", 0), x), 0, 1, over(0, 1)},
		{circuitOf(1, x, op("s", 0)), 0, 1, over(0, 1i)},
		// the order of the qubits
		{circuitOf(2, op("cx", 1, 0)), 2, 3, over(0, 1)},
		{circuitOf(2, op("cx", 1, 0)), 1, 1, over(0, 1)},
		{circuitOf(2, op("ch", 1, 0)), 3, 3, over(1, -1)},
		{circuitOf(2, op("ch", 1, 0)), 1, 1, over(0, 1)},
		{circuitOf(3, op("cswap", 2, 0, 1)), 5, 6, over(0, 1)},
		{circuitOf(3, op("cswap", 0, 2, 1)), 5, 3, over(0, 1)},
		// ch halves some paths alone: from 0 over 0 and 1 to 1 over the square root of 2, and 1/2
		{circuitOf(2, h, op("ch", 0, 1)), 0, 0, over(1, 1)},
		{circuitOf(2, h, op("ch", 0, 1)), 0, 3, over(2, 1)},
		{circuitOf(2, h, op("ch", 0, 1)), 0, 2, api.Amp{}},
		// (1 + 1/r)/2 and (1 - 1/r)/2: paths of unlike powers meet
		{circuitOf(2, h, op("ch", 0, 1), h), 0, 0, api.Amp{R: api.Ring{A: 1, B: 1 - 1i}, K: 3}},
		{circuitOf(2, h, op("ch", 0, 1), h), 0, 1, api.Amp{R: api.Ring{A: -1, B: 1 - 1i}, K: 3}},
	} {
		leads(t, c.c, c.from, c.to, c.want)
	}
	comes(t, circuitOf(3, h, op("cx", 0, 2), op("s", 2)), 2, numbers(1, 0, 0, 1, 0, 0, 0, 0, 1i))
	comes(t, circuitOf(2, h, op("h", 1), op("cz", 0, 1)), 0, numbers(2, 1, 1, 1, -1))
	// ends of unlike powers: 1 over the square root of 2, and twice 1/2
	comes(t, circuitOf(2, h, op("ch", 0, 1)), 0, api.State{N: 2, K: 2, Amps: []api.Ring{{B: 1 - 1i}, {A: 1}, {}, {A: 1}}})
}

// P15.1: Count is 2 to the power of the halvings: of each gate that halves, wherever it is and whatever else there is.
func TestCount(t *testing.T) {
	for _, f := range facts {
		for many := range 17 {
			c := circuitOf(3, times(many, op(f.name, []int{2, 0, 1}[:f.qubits]...))...)
			counts(t, c, 1<<(many*f.halve))
		}
	}
	var mixed []api.Op
	for j := range 4 {
		mixed = append(mixed, op("h", j), op("t", j), op("v", 63-j), op("cx", j, 20), op("vdg", 2*j), op("ch", j, j+1), op("w", j))
	}
	counts(t, circuitOf(64, mixed...), 65536)
	counts(t, circuitOf(11, times(4096, op("ccx", 10, 9, 8))...), 1)
	counts(t, circuitOf(64, append(times(4080, op("swap", 63, 0)), times(16, op("vdg", 63))...)...), 65536)
	counts(t, circuitOf(0), 1)
}

// P15.1: 16 halvings are taken. An even number of h on one qubit leads back; 16 on 16 qubits lead everywhere.
func TestSixteenHalvings(t *testing.T) {
	for _, q := range []int{0, 5, 9} {
		c := circuitOf(10, times(16, op("h", q))...)
		leads(t, c, 0, 0, over(0, 1))
		leads(t, c, 1023, 1023, over(0, 1))
		leads(t, c, 0, 1<<q, api.Amp{})
		comes(t, c, 0, func() api.State {
			s := api.State{N: 10, Amps: make([]api.Ring, 1024)}
			s.Amps[0] = whole(1)
			return s
		}())
	}
	c := circuitOf(64)
	for j := range 16 {
		c.Ops = append(c.Ops, op("h", 4*j+3))
	}
	leads(t, c, 0, 0, over(16, 1))
	leads(t, c, 0, 0x8888888888888888, over(16, 1))
	leads(t, c, 0x8888888888888888, 0x8888888888888888, over(16, 1))
	leads(t, c, 0x8888888888888888, 0x8000000000000000, over(16, -1))
	leads(t, c, 0, 1, api.Amp{})
	// 16 v: as x eight times, so as nothing
	leads(t, circuitOf(1, times(16, op("v", 0))...), 1, 1, over(0, 1))
	// ten h on ten qubits
	c = circuitOf(10)
	for j := range 10 {
		c.Ops = append(c.Ops, op("h", j))
	}
	comes(t, c, 0, numbers(10, slices.Repeat([]complex128{1}, 1024)...))
}

// P15.1: of 64 qubits the highest one is a qubit as any other.
func TestSixtyFourQubits(t *testing.T) {
	const high = 1 << 63
	for _, c := range []struct {
		ops      []api.Op
		from, to uint64
		want     api.Amp
	}{
		{[]api.Op{op("cx", 63, 0)}, high, high | 1, over(0, 1)},
		{[]api.Op{op("cx", 0, 63)}, 1, high | 1, over(0, 1)},
		{[]api.Op{op("x", 63)}, math.MaxUint64, math.MaxUint64 >> 1, over(0, 1)},
		{[]api.Op{op("x", 63)}, math.MaxUint64, math.MaxUint64, api.Amp{}},
		{[]api.Op{op("h", 63)}, high, high, over(1, -1)},
		{[]api.Op{op("h", 63), op("cx", 63, 62), op("cx", 62, 31)}, 0, 3<<62 | 1<<31, over(1, 1)},
		{[]api.Op{op("swap", 63, 0)}, 1, high, over(0, 1)},
		{[]api.Op{op("iswap", 0, 63)}, high | 4, 5, over(0, 1i)},
		{[]api.Op{op("ccz", 63, 31, 0)}, high | 1<<31 | 1, high | 1<<31 | 1, over(0, -1)},
		{[]api.Op{op("cswap", 63, 62, 61)}, high | 1<<62, high | 1<<61, over(0, 1)},
		{[]api.Op{op("t", 63)}, math.MaxUint64, math.MaxUint64, api.Amp{R: api.Ring{B: 1}}},
		{nil, math.MaxUint64, math.MaxUint64, over(0, 1)},
		{nil, math.MaxUint64, math.MaxUint64 - 1, api.Amp{}},
	} {
		leads(t, circuitOf(64, c.ops...), c.from, c.to, c.want)
	}
}
