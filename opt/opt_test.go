package opt_test

import (
	"slices"
	"strings"
	"testing"

	"cubit/api"
	"cubit/gate"
	"cubit/opt"
)

// The faces' shapes are promised.
var (
	_ func(api.Circuit) (api.Circuit, bool, api.Errno) = opt.Step
	_ func(api.Circuit) (api.Circuit, api.Errno)       = opt.Run
)

// A pair is a circuit and what comes of it, as ops reads them.
type pair struct {
	from, to string
}

// steps asks that Step tells true and just this circuit, with the qubits and bits that it had.
func steps(t *testing.T, from, to string) {
	t.Helper()
	d, more := step(t, made(from))
	if told(d) != to || !more || d.Qubits != 3 || d.Bits != 3 {
		t.Errorf("Step of %s: %s, %v, not %s", from, told(d), more, to)
	}
}

// rests asks that no rule fits, and that the circuit comes back as it is.
func rests(t *testing.T, text string) {
	t.Helper()
	c := made(text)
	if d, more := step(t, c); !same(d, c) || more {
		t.Errorf("Step of %s: %s, %v", text, told(d), more)
	}
	if d := run(t, c); !same(d, c) {
		t.Errorf("Run of %s: %s", text, told(d))
	}
}

// runs asks that Run tells just this circuit.
func runs(t *testing.T, from, to string) {
	t.Helper()
	if d := run(t, made(from)); told(d) != to || d.Qubits != 3 || d.Bits != 3 {
		t.Errorf("Run of %s: %s, not %s", from, told(d), to)
	}
}

func TestExamples(t *testing.T) {
	for _, p := range []pair{
		{"h0 h0", ""},
		{"t0 x1 t0", "s0 x1"},
		{"t0 cx01 t0", "t0 cx01 t0"},
		{"h0 z0 h0 x0", ""},
		{"cz01 cz10", ""},
		{"cx01 cx10", "cx01 cx10"},
		{"s0 t0", "s0 t0"},
		{"x0? m10 x0?", "x0? m10 x0?"},
		{"x0? m11 x0?", "m11"},
		{"w0 wdg0", ""},
		{"w0 wdg1", "w0 wdg1"},
	} {
		runs(t, p.from, p.to)
	}
	steps(t, "h0 z0 h0 x0", "x0 x0") // flip to x, then undo
	steps(t, "x0 x0", "")
}

// P19.1, idle: a gate of the name i goes, with a condition or without, wherever it stands.
func TestIdle(t *testing.T) {
	for _, p := range []pair{
		{"i0", ""}, {"i2?", ""}, {"i1?6=4", ""},
		{"i0 i0", "i0"}, {"i0? i0", "i0"}, {"i0 i0?", "i0?"},
		{"m00 i0 r0", "m00 r0"}, {"cx01 i1 cx01", "cx01 cx01"}, {"x0 i0 x0", "x0 x0"},
		{"h0 t1 cx12 i2", "h0 t1 cx12"},
	} {
		steps(t, p.from, p.to)
	}
	runs(t, "i0 i1 i2 i0? i0", "")
	for _, f := range gates {
		if f.name != "i" {
			c := of(3, 3, op(f.name, []int{2, 0, 1}[:f.qubits]...))
			if d, more := step(t, c); !same(d, c) || more {
				t.Errorf("one %s is taken out: %s", f.name, told(d))
			}
		}
	}
}

// P19.1, undo: each gate and each other one behind it, on all lists of the same qubits. Merge may fit where undo doesn't: it leaves a gate, or a sum of 0 that undo has taken ahead of it.
func TestUndoOfEachGate(t *testing.T) {
	if len(gates) != len(gate.Names()) {
		t.Fatalf("%d gates", len(gates))
	}
	taken := map[string]int{}
	for _, f := range gates {
		first := []int{2, 0, 1}[:f.qubits]
		for _, g := range gates {
			if f.name == "i" || g.name == "i" || f.qubits != g.qubits {
				continue
			}
			for _, list := range lists(3, g.qubits) {
				c := of(3, 3, op(f.name, first...), op(g.name, list...))
				wanted := sameSet(first, list) && g.name == f.back && asGood(f.name, first, list)
				d, more := step(t, c)
				if gone := more && len(d.Ops) == 0; gone != wanted {
					t.Errorf("Step of %s: %s, %v", told(c), told(d), more)
				}
				if wanted {
					taken[f.name]++
				}
			}
		}
	}
	for _, f := range gates {
		want := map[string]int{"i": 0, "cz": 2, "cs": 2, "csdg": 2, "swap": 2, "iswap": 2, "iswapdg": 2, "ccx": 2, "cswap": 2, "ccz": 6}
		many, ok := want[f.name]
		if !ok {
			many = 1
		}
		if taken[f.name] != many {
			t.Errorf("%s is taken back on %d lists, not %d", f.name, taken[f.name], many)
		}
	}
}

// P19.1, undo: which qubits may be exchanged.
func TestUndoInAnotherOrder(t *testing.T) {
	for _, text := range []string{
		"cz01 cz10", "cs01 csdg10", "csdg20 cs02", "swap12 swap21", "iswap01 iswapdg10", "iswapdg02 iswap20",
		"ccz012 ccz021", "ccz012 ccz102", "ccz012 ccz120", "ccz012 ccz201", "ccz012 ccz210",
		"ccx012 ccx102", "ccx210 ccx120", "cswap012 cswap021", "cswap201 cswap210",
		"cz01? cz10?", "ccx012?6=2 ccx102?6=2",
	} {
		steps(t, text, "")
	}
	for _, text := range []string{
		"cx01 cx10", "cy01 cy10", "ch01 ch10", "cs01 cs10", "iswap01 iswap10",
		"ccx012 ccx021", "ccx012 ccx210", "ccx012 ccx120", "ccx012 ccx201",
		"cswap012 cswap102", "cswap012 cswap210", "cswap012 cswap120", "cswap012 cswap201",
		"cz01 cz02", "cz01 cz21", "ccx012 cx01", "cx01 ccx012", "ccz012 ccx012", "cz01 cx01", "swap01 iswap01", "iswap01 swap01",
	} {
		rests(t, text)
	}
}

// P19.1, undo: gates that aren't each other's inverse.
func TestNoUndo(t *testing.T) {
	for _, text := range []string{"v0 v0", "vdg0 vdg0", "w0 w0", "wdg0 wdg0", "v0 wdg0", "x0 y0", "x0 h0", "cs01 cs01", "csdg01 csdg01", "iswapdg12 iswapdg12", "y0 z0", "v0 x0", "w0 t0"} {
		rests(t, text)
	}
}

// P19.1, merge: all pairs of turning gates, with a condition and without.
func TestMergeOfEachPair(t *testing.T) {
	turns := map[string]int{"t": 1, "s": 2, "z": 4, "sdg": 6, "tdg": 7}
	names := map[int]string{1: "t", 2: "s", 4: "z", 6: "sdg", 7: "tdg"}
	sums := map[int]int{}
	for a, one := range turns {
		for b, other := range turns {
			sum := (one + other) % 8
			sums[sum]++
			for _, condition := range []string{"", "?", "?6=4", "?7=0"} {
				text := a + "1" + condition + " " + b + "1" + condition
				switch name := names[sum]; {
				case sum == 0:
					steps(t, text, "")
				case name == "":
					rests(t, text)
				default:
					steps(t, text, name+"1"+condition)
				}
			}
		}
	}
	if sums[0] != 5 || sums[3] != 4 || sums[5] != 4 {
		t.Errorf("sums: %v", sums)
	}
	for _, text := range []string{"s0 t0", "t0 s0", "z0 tdg0", "tdg0 z0", "z0 t0", "t0 z0", "sdg0 tdg0", "tdg0 sdg0"} {
		rests(t, text)
	}
}

// P19.1, merge: other gates don't turn, though they are diagonal.
func TestNoMerge(t *testing.T) {
	for _, text := range []string{"t0 w0", "w0 t0", "w0 s0", "s0 x0", "cz01 cs01", "cs01 cs01", "t0 t1", "s0 s1", "t0 t0?", "t0? t0", "t0? t0?1=0", "t0? t0?3=1", "t0?3=1 t0?3=3"} {
		rests(t, text)
	}
}

// P19.1, merge: what comes stands in the place of the first one.
func TestMergeInPlace(t *testing.T) {
	for _, p := range []pair{
		{"x0 t1 h0 m22 r2 t1 x1", "x0 s1 h0 m22 r2 x1"},
		{"x1 s1 cx02 s1 x1", "x1 z1 cx02 x1"},
		{"x1 z1? m01 sdg1? x1", "x1 s1? m01 x1"},
		{"h2 t0 h1 tdg0 h1", "h2 h1 h1"},
	} {
		steps(t, p.from, p.to)
	}
}

// P19.1, flip: by x and by z, with a condition and without, and where one thing is amiss.
func TestFlip(t *testing.T) {
	for _, p := range []pair{
		{"h0 x0 h0", "z0"}, {"h1 z1 h1", "x1"},
		{"h0? x0? h0?", "z0?"}, {"h2?6=2 z2?6=2 h2?6=2", "x2?6=2"},
		{"y0 h0 x1 x0 t2 h0 y0", "y0 z0 x1 t2 y0"}, {"s2 h0 r1 z0 m11 h0 y2", "s2 x0 r1 m11 y2"},
		{"h0? m11 x0? m12 h0?", "z0? m11 m12"},
		{"h0 x0 h0 x0", "z0 x0"}, {"h0 z0 h0 x0", "x0 x0"},
		{"h0 x0 h0 x0 h0", "z0 x0 h0"},
		{"x0 h0 x0 h0", "x0 z0"},
	} {
		steps(t, p.from, p.to)
	}
	for _, text := range []string{
		"h0 y0 h0", "h0 s0 h0", "h0 t0 h0", "h0 v0 h0", "h0 w0 h0", "v0 x0 v0", "v0 z0 vdg0", "h0 x0 v0", "v0 x0 h0",
		"h0 x0", "x0 h0", "h0 z0", "h0 x0 z0 h0", "x0 h0 x0", "z0 h0 z0",
		"h0 x1 h2", "h0 x0 h1", "h1 x0 h0", "ch01 x1 ch01", "h0 cx01 h0", "h0 cz01 h0",
		"h0? x0 h0", "h0 x0? h0", "h0 x0 h0?", "h0? x0? h0", "h0 x0? h0?", "h0? x0?1=0 h0?", "h0? x0? h0?3=1",
		"h0 x0 m00 h0", "h0 r0 x0 h0", "h0 cx01 x0 h0", "h0 z0 cx10 h0",
		"h0? m10 x0? h0?", "h0? x0? m10 h0?", "h0? x0? m10? h0?",
	} {
		rests(t, text)
	}
}

// P19.1: what may stand between neighbours, and what may not.
func TestBetweenNeighbours(t *testing.T) {
	for _, two := range []string{"x0 x0", "x0? x0?", "h0 h0", "sdg0?2=0 s0?2=0", "v0?3=3 vdg0?3=3"} {
		first, second, _ := strings.Cut(two, " ")
		mask := ops(first)[0].Mask
		for _, text := range []string{"r1", "r1?", "r2?6=0", "x1", "h1?", "cx12", "swap21?4=4", "m12", "m22", "m12?", "m22?6=6", "r1 m12 x2 cz12"} {
			steps(t, first+" "+text+" "+second, text)
		}
		for _, text := range []string{"r0", "r0?", "y0", "t0?", "y0?3=1", "cx01", "cx10", "cz20?", "ccx012", "cswap210", "m02", "m01?", "m00?4=0", "x1 y0 h1"} {
			rests(t, first+" "+text+" "+second)
		}
		for bit := range uint64(3) {
			for _, condition := range []string{"", "?", "?2=2", "?4=0"} {
				between := "m1" + string(rune('0'+bit)) + condition
				if mask>>bit&1 == 1 {
					rests(t, first+" "+between+" "+second)
				} else {
					steps(t, first+" "+between+" "+second, between)
				}
			}
		}
	}
	for _, text := range []string{"cx01 x0 cx01", "cx01 x1 cx01", "cz01 t1 cz10", "ccx012 y1 ccx102", "cswap012 m10 cswap021", "swap12 r2 swap21", "cz01? m20 cz10?"} {
		rests(t, text)
	}
	steps(t, "cx01 x2 m22 r2 cx01", "x2 m22 r2")
}

// P19.1: the highest qubits and bits.
func TestHighestQubitsAndBits(t *testing.T) {
	top := uint64(1) << 63
	x := when(op("x", 63), top, top)
	for bit := range 64 {
		c := of(64, 64, x, measure(62, bit), x)
		want := of(64, 64, measure(62, bit))
		if bit == 63 {
			want = c
		}
		if d := run(t, c); !same(d, want) {
			t.Errorf("into bit %d: %s", bit, told(d))
		}
		all := when(op("x", 63), ^uint64(0), uint64(bit))
		if c := of(64, 64, all, measure(0, bit), all); !same(run(t, c), c) {
			t.Errorf("under all bits, into bit %d: %s", bit, told(run(t, c)))
		}
	}
	for q := range 64 {
		c := of(64, 0, op("t", 63), op("s", q), op("t", 63))
		want := of(64, 0, op("s", 63), op("s", q))
		if q == 63 {
			want = c
		}
		if d := run(t, c); !same(d, want) {
			t.Errorf("qubit %d: %s", q, told(d))
		}
		c = of(64, 0, op("cz", 0, 63), op("h", q), op("cz", 63, 0))
		want = of(64, 0, op("h", q))
		if q == 0 || q == 63 {
			want = c
		}
		if d := run(t, c); !same(d, want) {
			t.Errorf("qubit %d: %s", q, told(d))
		}
	}
}

// P19.1: other conditions and other qubits make no neighbours; what hides a neighbour is that which stands first in the way.
func TestNoNeighbours(t *testing.T) {
	for _, text := range []string{
		"x0 x0?", "x0? x0", "x0? x0?1=0", "x0? x0?2=2", "x0? x0?3=1", "x0?3=1 x0?3=3", "x0?1=0 x0?2=0",
		"x0 x1", "cx01 cx02", "cz01 cz02", "ccx012 cx01", "swap01 swap12",
		"x0 x0? x0", "x0? x0 x0?", "t0 t0? t0", "cz01 x0? cz01", "m00 m00", "r0 r0", "x0 m00 x0", "r0 x0 r0", "m00? m00?",
	} {
		rests(t, text)
	}
}

// P19.1: the rules' order goes ahead of the operations' order.
func TestWhichGoesFirst(t *testing.T) {
	for _, p := range []pair{
		{"x0 x0 t1 t1 h2 x2 h2 i0", "x0 x0 t1 t1 h2 x2 h2"},
		{"h2 x2 h2 t1 t1 x0 x0", "h2 x2 h2 t1 t1"},
		{"h2 x2 h2 t1 t1", "h2 x2 h2 s1"},
		{"h2 x2 h2 s1", "z2 s1"},
		{"i0 x1 x1 i2", "x1 x1 i2"},
		{"x1 x1 x0 x0", "x0 x0"},
		{"x1 x0 x0 x1", "x0 x0"}, // the lowest first one, though the other pair ends ahead
		{"x1 y1 y1 x1", "x1 x1"},
		{"x1 x1 x1", "x1"},
		{"t0 t0 t1 t1", "s0 t1 t1"},
		{"t1 t0 t0 t1", "s1 t0 t0"},
		{"t0 t0 t0", "s0 t0"},
		{"t0 z0 z0", "t0"},    // undo at 1, no merge at 0
		{"s0 s0 sdg0", "s0"},  // undo at 1, ahead of merge at 0
		{"z0 z0 z0", "z0"},    // undo, not merge
		{"t0 s0 s0", "t0 z0"}, // 3 is no turn: the next one
		{"h0 x0 h0 h1 x1 h1", "z0 h1 x1 h1"},
		{"h0 z0 x1 h0 h1 x1 h1", "x0 x1 h1 x1 h1"},
		{"h0 x0 h0 h0", "h0 x0"}, // undo behind goes ahead of flip
		{"h1 z1 h1 s0 s0", "h1 z1 h1 z0"},
	} {
		steps(t, p.from, p.to)
	}
}

// P19.1: Run goes on with what Step leaves.
func TestRun(t *testing.T) {
	for _, p := range []pair{
		{"", ""},
		{"t0 t0 t0 t0", "z0"},
		{"t0 t0 t0", "s0 t0"},
		{"t0 t0 t0 t0 t0", "z0 t0"},
		{"t0 t0 t0 t0 t0 t0 t0 t0", ""},
		{"s0 z0 s0", ""},
		{"tdg0 s0 t0", "s0"},
		{"h0 t0 t0 t0 t0 h0", "x0"},
		{"h0 s0 s0 h0 x0 y1", "y1"},
		{"x0 h1 cx12 cx12 h1 x0", ""},
		{"h0 cx12 s1 cx12 h0 vdg0", "cx12 s1 cx12 vdg0"},
		{"x0 cx01 cx01 x0 h2 z2 h2?", "h2 z2 h2?"},
		{"h0? s0? m12 s0? h0?", "x0? m12"},
		{"h0? s0? m10 s0? h0?", "h0? s0? m10 s0? h0?"},
		{"h0 i0 x0 i0 h0 z0", ""},
		{"cx01 h2 x2 h2 z2 cx01", ""},
		{"m00 x1? i2 x1? r1 t2 t2", "m00 r1 s2"},
	} {
		runs(t, p.from, p.to)
	}
}

// P19.1: Run of the greatest circuits: all goes, or nothing.
func TestGreatest(t *testing.T) {
	all := slices.Repeat(ops("t0"), api.MaxOps)
	if d := run(t, of(1, 0, all...)); !same(d, of(1, 0)) {
		t.Errorf("t: %s", few(d))
	}
	if d, more := step(t, of(1, 0, all...)); !same(d, of(1, 0, append(ops("s0"), all[2:]...)...)) || !more {
		t.Errorf("t, a step: %s, %v", few(d), more)
	}
	for _, text := range []string{"w0", "r0", "m00", "x0 y0", "cx01 cx10", "s1 cx10", "x0? x0"} {
		list := ops(text)
		c := of(2, 1, slices.Repeat(list, api.MaxOps/len(list))...)
		if d, more := step(t, c); !same(d, c) || more {
			t.Errorf("%s: %s, %v", text, few(d), more)
		}
		if d := run(t, c); !same(d, c) {
			t.Errorf("%s: %s", text, few(d))
		}
	}
	wide := of(64, 64)
	for j := range api.MaxOps {
		wide.Ops = append(wide.Ops, op("t", j%64))
	}
	if d := run(t, wide); !same(d, of(64, 64)) {
		t.Errorf("t on all qubits: %s", few(d))
	}
	halved := of(1, 0, slices.Repeat(ops("h0 x0"), api.MaxHalf)...)
	if d := run(t, halved); !same(d, of(1, 0, slices.Repeat(ops("z0 x0"), api.MaxHalf/2)...)) {
		t.Errorf("h and x: %s", few(d))
	}
}

// P19.1: circuits of no qubits, or of no operations.
func TestOfNothing(t *testing.T) {
	for _, c := range []api.Circuit{{}, of(0, 64), of(64, 0), of(64, 64), {Qubits: 3, Bits: 2, Ops: []api.Op{}}} {
		if d, more := step(t, c); !same(d, c) || more {
			t.Errorf("Step of %v: %v, %v", c, d, more)
		}
		if d := run(t, c); !same(d, c) {
			t.Errorf("Run of %v: %v", c, d)
		}
	}
}
