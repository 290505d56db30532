package flat_test

import (
	"math/bits"
	"slices"
	"strconv"
	"strings"
	"testing"

	"cubit/api"
	"cubit/circuit"
	"cubit/flat"
)

// shown asks for a text, and that it is read as the circuit again.
func shown(t *testing.T, c api.Circuit, want string) {
	t.Helper()
	text, e := flat.Show(c)
	if text != want || e != api.OK {
		t.Errorf("Show(%v): %d\n%.2000s, not\n%.2000s", few(c), e, text, want)
	}
	back(t, c)
}

// back asks that what Show tells is read as the circuit (P12.2), and tells the text.
func back(t *testing.T, c api.Circuit) string {
	t.Helper()
	text, e := flat.Show(c)
	if e != api.OK {
		t.Fatalf("Show(%v): %d", few(c), e)
	}
	if d, place, e := flat.Read(text); !same(c, d) || place != 0 || e != api.OK {
		t.Fatalf("Read(%.500q): %v, %d, %d, not %v", text, few(d), place, e, few(c))
	}
	return text
}

// hidden asks for an error, and nothing beside it.
func hidden(t *testing.T, c api.Circuit, want api.Errno) {
	t.Helper()
	if text, e := flat.Show(c); text != "" || e != want {
		t.Errorf("Show(%v): %.80q, %d, not %d", few(c), text, e, want)
	}
}

// lines is a text of these lines.
func lines(list ...string) string {
	text := ""
	for _, line := range list {
		text += line + "\n"
	}
	return text
}

// P12.1: circuits without qubits, without bits, without both.
func TestShowOfLittle(t *testing.T) {
	shown(t, of(0, 0), "")
	shown(t, of(1, 0), "qubits q 1;\n")
	shown(t, of(64, 0), "qubits q 64;\n")
	shown(t, of(0, 1), "bits c0 1;\n")
	shown(t, of(0, 7), "bits c0 7;\n")
	shown(t, of(3, 2), "qubits q 3;\nbits c0 2;\n")
	shown(t, api.Circuit{Qubits: 2, Ops: []api.Op{}}, "qubits q 2;\n")
}

// P12.1: operations of each Kind, and each gate.
func TestShowOfOperations(t *testing.T) {
	shown(t, of(3, 2, gate("h", 2), gate("cx", 2, 0), measure(1, 0), reset(2), gate("ccx", 1, 2, 0), measure(0, 1)), lines("qubits q 3;", "bits c0 2;", "h q[2];", "cx q[2] q[0];", "measure q[1] c0[0];", "reset q[2];", "ccx q[1] q[2] q[0];", "measure q[0] c0[1];"))
	for _, f := range facts {
		args := []string{" q[63]", " q[0]", " q[17]"}[:f.qubits]
		shown(t, of(64, 0, gate(f.name, []int{63, 0, 17}[:f.qubits]...)), lines("qubits q 64;", f.name+strings.Join(args, "")+";"))
	}
}

// P12.1: conditions on operations of each Kind, on one register, on several, and the values of these.
func TestShowOfConditions(t *testing.T) {
	shown(t, of(1, 1, when(gate("x", 0), 1, 0)), lines("qubits q 1;", "bits c0 1;", "if c0 0 {", "  x q[0];", "}"))
	shown(t, of(1, 3, when(gate("x", 0), 7, 5)), lines("qubits q 1;", "bits c0 3;", "if c0 5 {", "  x q[0];", "}"))
	shown(t, of(2, 3, when(reset(1), 6, 4), measure(0, 0), when(measure(1, 2), 6, 2)), lines("qubits q 2;", "bits c0 1;", "bits c1 2;", "if c1 2 {", "  reset q[1];", "}", "measure q[0] c0[0];", "if c1 1 {", "  measure q[1] c1[1];", "}"))
	// Neighbouring registers are asked one by one, from the lowest on.
	shown(t, of(2, 4, when(gate("x", 0), 2, 2), when(gate("cx", 1, 0), 15, 6)), lines("qubits q 2;", "bits c0 1;", "bits c1 1;", "bits c2 2;", "if c1 1 {", "  x q[0];", "}", "if c0 0 {", "  if c1 1 {", "    if c2 1 {", "      cx q[1] q[0];", "    }", "  }", "}"))
	shown(t, of(1, 5, when(gate("x", 0), 17, 16)), lines("qubits q 1;", "bits c0 1;", "bits c1 3;", "bits c2 1;", "if c0 0 {", "  if c2 1 {", "    x q[0];", "  }", "}"))
	// Two operations under one condition have it each by itself.
	shown(t, of(1, 1, when(gate("x", 0), 1, 1), when(gate("y", 0), 1, 1)), lines("qubits q 1;", "bits c0 1;", "if c0 1 {", "  x q[0];", "}", "if c0 1 {", "  y q[0];", "}"))
}

// P12.1: registers of 32 bits, and of one more; and cuts of Masks behind them.
func TestShowOfManyBits(t *testing.T) {
	shown(t, of(0, 31), "bits c0 31;\n")
	shown(t, of(0, 32), "bits c0 32;\n")
	shown(t, of(0, 33), "bits c0 32;\nbits c1 1;\n")
	shown(t, of(0, 63), "bits c0 32;\nbits c1 31;\n")
	shown(t, of(0, 64), "bits c0 32;\nbits c1 32;\n")
	all := ^uint64(0)
	shown(t, of(1, 64, when(gate("x", 0), all, all)), lines("qubits q 1;", "bits c0 32;", "bits c1 32;", "if c0 4294967295 {", "  if c1 4294967295 {", "    x q[0];", "  }", "}"))
	shown(t, of(1, 64, when(gate("x", 0), all, 1<<63|1<<31)), lines("qubits q 1;", "bits c0 32;", "bits c1 32;", "if c0 2147483648 {", "  if c1 2147483648 {", "    x q[0];", "  }", "}"))
	shown(t, of(1, 64, when(gate("x", 0), 1<<33-2, 1<<32)), lines("qubits q 1;", "bits c0 1;", "bits c1 32;", "bits c2 31;", "if c1 2147483648 {", "  x q[0];", "}"))
	shown(t, of(1, 64, when(gate("x", 0), 1<<34-2, 1<<33)), lines("qubits q 1;", "bits c0 1;", "bits c1 32;", "bits c2 1;", "bits c3 30;", "if c1 0 {", "  if c2 1 {", "    x q[0];", "  }", "}"))
	shown(t, of(1, 40, gate("x", 0), measure(0, 39), when(gate("x", 0), 1<<39|2, 1<<39)), lines("qubits q 1;", "bits c0 1;", "bits c1 1;", "bits c2 32;", "bits c3 5;", "bits c4 1;", "x q[0];", "measure q[0] c4[0];", "if c1 0 {", "  if c4 1 {", "    x q[0];", "  }", "}"))
	// A cut ahead of the 32nd bit begins the counting anew.
	shown(t, of(1, 64, when(gate("x", 0), 1<<20-1, 0)), lines("qubits q 1;", "bits c0 20;", "bits c1 32;", "bits c2 12;", "if c0 0 {", "  x q[0];", "}"))
	shown(t, of(1, 64, when(gate("x", 0), 1<<32-1, 0), measure(0, 31), measure(0, 32)), lines("qubits q 1;", "bits c0 32;", "bits c1 32;", "if c0 0 {", "  x q[0];", "}", "measure q[0] c0[31];", "measure q[0] c1[0];"))
	shown(t, of(1, 64, when(gate("x", 0), 1<<63, 1<<63)), lines("qubits q 1;", "bits c0 32;", "bits c1 31;", "bits c2 1;", "if c2 1 {", "  x q[0];", "}"))
}

// P12.1: measurements into each bit, by registers that are cut.
func TestShowOfEachBit(t *testing.T) {
	c := of(1, 64, when(gate("x", 0), 6, 0))
	want := lines("qubits q 1;", "bits c0 1;", "bits c1 2;", "bits c2 32;", "bits c3 29;", "if c1 0 {", "  x q[0];", "}")
	for bit := range 64 {
		c.Ops = append(c.Ops, measure(0, bit))
		name, first := "c3", 35
		switch {
		case bit < 1:
			name, first = "c0", 0
		case bit < 3:
			name, first = "c1", 1
		case bit < 35:
			name, first = "c2", 3
		}
		want += "measure q[0] " + name + "[" + strconv.Itoa(bit-first) + "];\n"
	}
	shown(t, c, want)
}

// P12.1: an operation that needs MaxDepth ifs, and one more.
func TestShowOfManyIfs(t *testing.T) {
	const odd = 0xAAAAAAAAAAAAAAAA
	for _, mask := range []uint64{odd, odd >> 1} {
		c := of(1, 64, when(gate("x", 0), mask, mask&0xFF00FF))
		text := back(t, c)
		if strings.Count(text, "if ") != 32 || strings.Count(text, "\nbits ") != 64 || !strings.Contains(text, "\n"+strings.Repeat("  ", 32)+"x q[0];\n") {
			t.Errorf("%s", text)
		}
		for bit := range 64 {
			more := c
			more.Ops = append(slices.Clone(c.Ops), when(gate("y", 0), mask|1<<bit, 0))
			if mask>>bit&1 == 1 {
				back(t, more)
			} else {
				hidden(t, more, api.ErrDeep)
			}
		}
	}
	// Alone a Mask never needs more, but the cuts of others count.
	all := when(gate("x", 0), 1<<64-1, 0)
	back(t, of(1, 64, all))
	hidden(t, of(1, 64, all, when(gate("x", 0), odd, 0)), api.ErrDeep)
	hidden(t, of(1, 64, when(gate("x", 0), odd, 0), all), api.ErrDeep)
	back(t, of(1, 64, when(gate("x", 0), 1<<32-1, 0), when(gate("x", 0), odd&(1<<32-1), 0)))
	hidden(t, of(1, 64, when(reset(0), 1<<33-1, 0), when(gate("x", 0), odd&(1<<33-1), 0)), api.ErrDeep)
	hidden(t, of(1, 64, when(measure(0, 0), 1<<33-1, 0), when(gate("x", 0), odd&(1<<33-1), 0)), api.ErrDeep)
}

// long is a circuit whose text has so many bytes.
func long(t *testing.T, size int) api.Circuit {
	t.Helper()
	c := of(64, 0)
	left := size - len("qubits q 64;\n")
	for left > 200 {
		c.Ops = append(c.Ops, gate("ccx", 10, 11, 12))
		left -= len("ccx q[10] q[11] q[12];\n")
	}
	for ; left%8 > 0; left -= 9 {
		c.Ops = append(c.Ops, gate("x", 10))
	}
	for ; left > 0; left -= 8 {
		c.Ops = append(c.Ops, gate("x", 0))
	}
	return c
}

// P12.1: a text of MaxSource bytes, and of one more; and that the other errors come ahead.
func TestShowOfLongTexts(t *testing.T) {
	for _, size := range []int{65528, 65535, 65536} {
		if text := back(t, long(t, size)); len(text) != size {
			t.Errorf("%d bytes, not %d", len(text), size)
		}
	}
	for _, size := range []int{65537, 65538, 66000, 80000} {
		hidden(t, long(t, size), api.ErrLong)
	}
	deepest := []api.Op{when(gate("x", 0), 0x5555555555555555, 0), when(gate("x", 0), 0x5555555555555557, 0)}
	c := long(t, 80000)
	c.Bits = 64
	for _, ops := range [][]api.Op{slices.Concat(c.Ops, deepest), slices.Concat(deepest, c.Ops)} {
		hidden(t, of(64, 64, ops...), api.ErrDeep)
		hidden(t, of(64, 64, append(ops, gate("foo"))...), api.ErrGate)
		hidden(t, of(64, 65, ops...), api.ErrArg)
	}
	hidden(t, of(64, 64, slices.Concat(c.Ops, deepest[:1])...), api.ErrLong)
	hidden(t, of(64, 64, times(4096, deepest[0])...), api.ErrLong)
	hidden(t, of(64, 64, times(4097, deepest...)...), api.ErrMany)
	// As many operations as can be.
	back(t, of(1, 0, times(4096, gate("x", 0))...))
}

// P12.1: what Check refuses is refused with its error.
func TestShowOfWhatIsNone(t *testing.T) {
	for _, c := range []api.Circuit{
		of(-1, 0), of(65, 0), of(0, -1), of(0, 65), of(1, 0, times(4097, gate("x", 0))...), of(1, 0, api.Op{}), of(1, 0, api.Op{Kind: 4, Qubits: []int{0}}), of(1, 1, api.Op{Kind: api.OpGate, Name: "x", Qubits: []int{0}, Mask: 1}), of(1, 1, when(gate("x", 0), 2, 0)), of(1, 1, when(gate("x", 0), 0, 0)), of(1, 2, when(gate("x", 0), 1, 2)),
		of(1, 0, gate("foo", 0)), of(1, 0, gate("", 0)), of(1, 0, gate("if", 0)), of(1, 0, gate("x")), of(2, 0, gate("x", 0, 1)), of(1, 0, gate("x", 1)), of(1, 0, gate("x", -1)), of(0, 0, gate("x", 0)), of(1, 0, measure(0, 0)), of(1, 1, measure(1, 0)), of(2, 0, gate("cx", 1, 1)), of(1, 0, times(37, gate("h", 0))...), of(1, 0, gate("x", 0), reset(1)),
	} {
		_, want := circuit.Check(c)
		if want == api.OK {
			t.Fatalf("Check takes %v", few(c))
		}
		hidden(t, c, want)
	}
}

func (s *source) word() uint64 {
	return uint64(s.next(1<<30))<<34 ^ uint64(s.next(1<<30))<<17 ^ uint64(s.next(1<<30))
}

// mask is some of so many bits, and not none: a few rows of them, or a few anywhere, or all.
func (s *source) mask(count int) uint64 {
	all := uint64(1)<<count - 1
	switch s.next(8) {
	case 0:
		return all
	case 1:
		return s.word()&all | 1
	}
	var mask uint64
	for range 1 + s.next(3) {
		begin := s.next(count)
		mask |= (1<<(1+s.next(count-begin)) - 1) << begin
	}
	return mask
}

// op is an operation for so many qubits and bits, under a condition in some cases.
func (s *source) op(qubits, count int, halves *int) api.Op {
	op := gate("x", s.next(qubits))
	numbers := make([]int, qubits)
	for j := range numbers {
		numbers[j] = j
	}
	f := one(s, facts...)
	switch k := s.next(8); {
	case k == 0 && count > 0:
		op = measure(s.next(qubits), s.next(count))
	case k == 1:
		op = reset(s.next(qubits))
	case f.qubits <= qubits && *halves+f.halve <= 36:
		op = gate(f.name, shuffled(s, numbers)[:f.qubits]...)
		*halves += f.halve
	}
	if count > 0 && s.next(3) == 0 {
		mask := s.mask(count)
		op = when(op, mask, mask&s.word())
	}
	return op
}

// circuit is one of so many operations and bits.
func (s *source) circuit(ops, count int) api.Circuit {
	c := of(1+s.next(one(s, 3, 10, 64)), count)
	halves := 0
	for range ops {
		c.Ops = append(c.Ops, s.op(c.Qubits, c.Bits, &halves))
	}
	return c
}

// written is the text that Show must tell, by the words, put together as a text; and how many ifs the operation has that needs most of them.
func written(c api.Circuit) (string, int) {
	text := ""
	if c.Qubits != 0 {
		text = "qubits q " + strconv.Itoa(c.Qubits) + ";\n"
	}
	var sets []uint64 // the registers' bits
	for bit := range c.Bits {
		low, high := uint64(1)<<bit>>1, uint64(1)<<bit
		isCut := bit == 0
		for _, op := range c.Ops {
			if bit > 0 && (op.Mask&low != 0) != (op.Mask&high != 0) {
				isCut = true
			}
		}
		if isCut || bits.OnesCount64(sets[len(sets)-1]) == 32 {
			sets = append(sets, 0)
		}
		sets[len(sets)-1] |= high
	}
	for j, set := range sets {
		text += "bits c" + strconv.Itoa(j) + " " + strconv.Itoa(bits.OnesCount64(set)) + ";\n"
	}
	most := 0
	for _, op := range c.Ops {
		begin, end, ifs := "", "", 0
		for j, set := range sets {
			if op.Mask&set == set {
				in := strings.Repeat("  ", ifs)
				begin += in + "if c" + strconv.Itoa(j) + " " + strconv.FormatUint(op.Value&set>>bits.TrailingZeros64(set), 10) + " {\n"
				end = in + "}\n" + end
				ifs++
			}
		}
		most = max(most, ifs)
		text += begin + strings.Repeat("  ", ifs) + op.Name + map[int]string{api.OpMeasure: "measure", api.OpReset: "reset"}[op.Kind]
		for _, q := range op.Qubits {
			text += " q[" + strconv.Itoa(q) + "]"
		}
		for j, set := range sets {
			if op.Kind == api.OpMeasure && set>>op.Bit&1 == 1 {
				text += " c" + strconv.Itoa(j) + "[" + strconv.Itoa(op.Bit-bits.TrailingZeros64(set)) + "]"
			}
		}
		text += ";\n" + end
	}
	return text, most
}

// P12.1, P12.2: circuits of all sorts are told as the words have it, and are read again.
func TestCircuitsOfAllSorts(t *testing.T) {
	s := source(5)
	count := map[api.Errno]int{}
	for j := range 2000 {
		size, width := s.next(1+j%30), s.next(one(&s, 1, 4, 10, 40, 65))
		if j%200 == 0 {
			size, width = 300+j, 10
		}
		if j%20 == 1 {
			size, width = 20, 64
		}
		c := s.circuit(size, width)
		want, most := written(c)
		switch text, e := flat.Show(c); {
		case most > 32 && (e != api.ErrDeep || text != ""):
			t.Fatalf("Show(%v): %d, but %d ifs are needed", c, e, most)
		case most <= 32 && len(want) > 65536 && (e != api.ErrLong || text != ""):
			t.Fatalf("Show(%v): %d, but %d bytes are needed", few(c), e, len(want))
		case most <= 32 && len(want) <= 65536:
			shown(t, c, want)
			count[api.OK]++
		default:
			count[e]++
		}
	}
	if count[api.OK] < 1500 || count[api.ErrDeep] < 20 || count[api.ErrLong] < 3 {
		t.Errorf("%v", count)
	}
}
