package flat_test

import (
	"strconv"
	"strings"
	"testing"
	"time"

	"cubit/api"
	"cubit/flat"
)

// P12.1: as many operations as can be, and one more, with the place of the row outside of definitions from which that one comes.
func TestManyOperations(t *testing.T) {
	x := gate("x", 0)
	full := of(1, 0, times(4096, x)...)
	comes(t, "qubits q 1; repeat 4096 { x q[0]; }", full)
	comes(t, "qubits q 1; repeat 64 { repeat 64 { x q[0]; } }", full)
	comes(t, "qubits q 1; repeat 4095 { x q[0]; } x q[0];", full)
	comes(t, "qubits q 1; gate g a { repeat 4096 { x a; } } g q[0];", full)
	comes(t, "qubits q 1; gate g a { repeat 2048 { x a; } } g q[0]; g q[0];", full)
	comes(t, "qubits q 1; repeat 4096 { x q[0]; } repeat 0 { x q[0]; } repeat 7 { }", full)
	comes(t, "qubits q 1; gate e a { } repeat 4096 { x q[0]; e q[0]; } e q[0];", full)
	comes(t, "qubits q 1; bits c 1; repeat 4096 { x q[0]; } if c 1 { if c 0 { x q[0]; } }", of(1, 1, times(4096, x)...))
	comes(t, "qubits q 1; "+strings.Repeat("x q[0]; ", 4096), full)

	refusedAt(t, "qubits q 1; repeat 4097 { @x q[0]; }", api.ErrMany)
	refusedAt(t, "qubits q 1; repeat 4096 { x q[0]; } @x q[0];", api.ErrMany)
	refusedAt(t, "qubits q 1; bits c 1; repeat 4096 { x q[0]; } @measure q[0] c[0]; x q[0];", api.ErrMany)
	refusedAt(t, "qubits q 1; bits c 1; repeat 4096 { x q[0]; } if c 0 { @reset q[0]; x q[0]; } x q[0];", api.ErrMany)
	refusedAt(t, "qubits q 1; repeat 4095 { x q[0]; } x q[0]; @x q[0]; x q[0];", api.ErrMany)
	refusedAt(t, "qubits q 1; repeat 2048 { x q[0]; y q[0]; } repeat 2 { @z q[0]; }", api.ErrMany)
	refusedAt(t, "qubits q 1; repeat 2049 { @x q[0]; y q[0]; }", api.ErrMany)
	refusedAt(t, "qubits q 1; x q[0]; repeat 2049 { x q[0]; @y q[0]; }", api.ErrMany)
	refusedAt(t, "qubits q 1; repeat 1366 { x q[0]; @y q[0]; z q[0]; }", api.ErrMany)
	refusedAt(t, "qubits q 1; repeat 3 { x q[0]; } repeat 65 { repeat 63 { x q[0]; } @y q[0]; z q[0]; }", api.ErrMany)
	refusedAt(t, "qubits q 1; bits c 1; repeat 4096 { x q[0]; } if c 1 { if c 0 { x q[0]; } } repeat 0 { x q[0]; } @x q[0];", api.ErrMany)
	refusedAt(t, "qubits q 1; "+strings.Repeat("x q[0]; ", 4096)+"@x q[0];"+strings.Repeat("x q[0]; ", 1000), api.ErrMany)
	// Of what is defined the row that uses it outside of definitions is told.
	refusedAt(t, "qubits q 1; gate g a { repeat 4097 { x a; } } @g q[0]; g q[0];", api.ErrMany)
	refusedAt(t, "qubits q 1; gate g a { repeat 2048 { x a; } } gate k a { g a; g a; x a; } x q[0]; @k q[0]; k q[0];", api.ErrMany)
	refusedAt(t, "qubits q 1; gate g a { repeat 1000 { x a; } } g q[0]; g q[0]; g q[0]; g q[0]; @g q[0]; g q[0];", api.ErrMany)
	refusedAt(t, "qubits q 1; gate g a { repeat 1024 { x a; } } repeat 4 { g q[0]; } @x q[0];", api.ErrMany)
	refusedAt(t, "qubits q 1; gate g a { repeat 1024 { x a; } } repeat 2 { g q[0]; g q[0]; } repeat 2 { repeat 0 { g q[0]; } @g q[0]; g q[0]; }", api.ErrMany)
}

// P12.1: more operations than any number tells.
func TestVeryManyOperations(t *testing.T) {
	soon(t, func() {
		most := strconv.Itoa(api.MaxPart)
		refusedAt(t, "qubits q 1; repeat "+most+" { @x q[0]; }", api.ErrMany)
		refusedAt(t, "qubits q 1; "+strings.Repeat("repeat "+most+" { ", 32)+"@x q[0]; "+strings.Repeat("} ", 32), api.ErrMany)
		refusedAt(t, "qubits q 1; "+doubling("x a; ")+"@g32 q[0];", api.ErrMany)
		refusedAt(t, "qubits q 1; bits c 1; "+doubling("x a; ")+"if c 1 { if c 0 { g32 q[0]; } } repeat 0 { g32 q[0]; } repeat 4096 { x q[0]; } repeat "+most+" { @g32 q[0]; }", api.ErrMany)
		refusedRows(t, placed(append([]api.Row{{Kind: "qubits", Name: "q", Num: 1}}, again(1<<63-1, again(1<<63-1, use("x", arg("q", 0)))...)...)), api.ErrMany, 1000-37*3)
	})
}

// doubling is 32 definitions, g1 to g32, of which each uses the one ahead twice, many times over.
func doubling(body string) string {
	text := "gate g1 a { " + body + "} "
	for j := 2; j <= 32; j++ {
		ahead := "g" + strconv.Itoa(j-1) + " a; "
		text += "gate g" + strconv.Itoa(j) + " a { repeat 9007199254740991 { " + ahead + "} " + ahead + "} "
	}
	return text
}

// soon asks that something ends within a time that is far longer than it needs.
func soon(t *testing.T, do func()) {
	t.Helper()
	done := make(chan int)
	go func() {
		defer close(done)
		do()
	}()
	select {
	case <-done:
	case <-time.After(30 * time.Second):
		t.Fatal("it doesn't end")
	}
}

// P12.1: however often something without operations is repeated, and however many definitions lead to nothing, it ends soon.
func TestNothingEndsSoon(t *testing.T) {
	most := strconv.Itoa(api.MaxPart)
	soon(t, func() {
		comes(t, "qubits q 1; repeat "+most+" { }", of(1, 0))
		comes(t, "qubits q 1; "+strings.Repeat("repeat "+most+" { ", 32)+strings.Repeat("} ", 32), of(1, 0))
		comes(t, "qubits q 1; repeat "+most+" { repeat 0 { x q[0]; } }", of(1, 0))
		comes(t, "qubits q 1; bits c 1; repeat "+most+" { if c 1 { if c 0 { x q[0]; } } }", of(1, 1))
		comes(t, "qubits q 1; bits c 1; if c 1 { repeat "+most+" { if c 0 { repeat "+most+" { x q[0]; } } } }", of(1, 1))
		comes(t, "qubits q 1; "+doubling("")+"repeat "+most+" { g32 q[0]; }", of(1, 0))
		comes(t, "qubits q 1; "+doubling("repeat 0 { x a; } ")+"g32 q[0]; x q[0];", of(1, 0, gate("x", 0)))
		comes(t, "qubits q 1; "+doubling("x a; ")+"repeat 0 { g32 q[0]; }", of(1, 0))
		comes(t, "qubits q 1; bits c 1; "+doubling("x a; ")+"if c 0 { if c 1 { g32 q[0]; } } repeat 2 { g1 q[0]; }", of(1, 1, times(2, gate("x", 0))...))
		comes(t, "qubits q 1; gate e a { } gate f a { repeat "+most+" { e a; } } repeat 99999 { f q[0]; }", of(1, 0))
		flattens(t, append([]api.Row{{Kind: "qubits", Name: "q", Num: 1}}, again(1<<63-1, again(1<<63-1)...)...), of(1, 0))
	})
}

// P12.1: nothing beside a few operations ends soon, too, however often it is repeated with them.
func TestLittleAmongNothing(t *testing.T) {
	soon(t, func() {
		nothing := strings.Repeat("e q[0]; ", 7000)
		comes(t, "qubits q 1; gate e a { } repeat 4096 { "+nothing+"x q[0]; }", of(1, 0, times(4096, gate("x", 0))...))
		comes(t, "qubits q 1; gate e a { } gate f a { "+strings.ReplaceAll(nothing, "q[0]", "a")+"x a; } repeat 4096 { f q[0]; }", of(1, 0, times(4096, gate("x", 0))...))
		rows := append([]api.Row{{Kind: "qubits", Name: "q", Num: 1}}, again(4096, append(times(300000, again(1<<62)...), use("x", arg("q", 0)))...)...)
		flattens(t, rows, of(1, 0, times(4096, gate("x", 0))...))
	})
}

// P12.1: the longest way to operations: as many definitions as can be, each with as many repeats as can be, and many parameters.
func TestLongWays(t *testing.T) {
	params, args := "", ""
	for j := range 64 {
		params += " p" + strconv.Itoa(j)
		args += " q[" + strconv.Itoa(j) + "]"
	}
	text := "qubits q 64; gate g1" + params + " { x p63; } "
	for j := 2; j <= 32; j++ {
		text += "gate g" + strconv.Itoa(j) + params + " { " + strings.Repeat("repeat 1{", 31) + "g" + strconv.Itoa(j-1) + params + ";" + strings.Repeat("}", 31) + "} "
	}
	text += strings.Repeat("repeat 1{", 31) + "repeat 4096{ g32" + args + "; }" + strings.Repeat("}", 31)
	soon(t, func() { comes(t, text, of(64, 0, times(4096, gate("x", 63))...)) })
}

// P12.1: many rows, many parameters and many Args are gone over soon.
func TestManyRowsAndArgs(t *testing.T) {
	soon(t, func() {
		many := api.Row{Kind: "gate", Name: "g"}
		for j := range 200000 {
			many.Args = append(many.Args, par("p"+strconv.Itoa(j)))
		}
		flattens(t, []api.Row{many}, api.Circuit{})
		twice := many
		twice.Args = append(many.Args[:len(many.Args):len(many.Args)], par("p0"))
		refusedRows(t, []api.Row{twice}, api.ErrSame, 0)
		inner := many
		inner.Name = "k"
		flattens(t, append(with(inner, use("x", par("p199999"))), with(many, use("k", many.Args...))...), api.Circuit{})
		wrong := use("k", append(many.Args[1:len(many.Args):len(many.Args)], par("p1"))...)
		refusedRows(t, append(with(inner), with(many, wrong)...), api.ErrSame, 0)
		flattens(t, times(300000, api.Row{Kind: "repeat", Num: 3}), api.Circuit{})
		refusedRows(t, append([]api.Row{{Kind: "qubits", Name: "q", Num: 1}}, times(300000, use("x", arg("q", 0)))...), api.ErrMany, 0)
	})
}

// P12.1: halvings of as many as can be, and of one more, with the place of its row.
func TestManyHalvings(t *testing.T) {
	h := gate("h", 0)
	comes(t, "qubits q 1; repeat 36 { h q[0]; }", of(1, 0, times(36, h)...))
	comes(t, "qubits q 1; repeat 36 { h q[0]; x q[0]; } x q[0];", of(1, 0, append(times(36, h, gate("x", 0)), gate("x", 0))...))
	comes(t, "qubits q 1; repeat 36 { h q[0]; } repeat 0 { h q[0]; }", of(1, 0, times(36, h)...))
	comes(t, "qubits q 1; gate g a { repeat 6 { h a; } } repeat 6 { g q[0]; }", of(1, 0, times(36, h)...))
	for _, name := range []string{"h q[0]", "v q[1]", "vdg q[0]", "ch q[0] q[1]"} {
		refusedAt(t, "qubits q 2; repeat 37 { @"+name+"; }", api.ErrRoots)
		refusedAt(t, "qubits q 2; repeat 4096 { @"+name+"; }", api.ErrRoots)
		refusedAt(t, "qubits q 2; repeat 36 { "+name+"; } x q[0]; y q[1]; @"+name+"; h q[0];", api.ErrRoots)
		refusedAt(t, "qubits q 2; repeat 18 { "+name+"; h q[0]; } @"+name+";", api.ErrRoots)
		refusedAt(t, "qubits q 2; repeat 37 { @h q[0]; x q[0]; } "+name+";", api.ErrRoots)
		refusedAt(t, "qubits q 2; bits c 1; repeat 36 { "+name+"; } if c 0 { repeat 0 { h q[0]; } @h q[1]; }", api.ErrRoots)
		refusedAt(t, "qubits q 2; bits c 1; if c 0 { repeat 35 { "+name+"; } } if c 1 { h q[0]; @h q[1]; }", api.ErrRoots)
	}
	refusedAt(t, "qubits q 1; gate g a { h a; } gate k a { repeat 4 { x a; g a; } } repeat 9 { k q[0]; } x q[0]; @k q[0]; k q[0];", api.ErrRoots)
	refusedAt(t, "qubits q 1; gate g a { repeat 37 { h a; } } x q[0]; @g q[0]; h q[0];", api.ErrRoots)
	comes(t, "qubits q 1; bits c 1; repeat 36 { h q[0]; } if c 0 { if c 1 { h q[0]; } }", of(1, 1, times(36, h)...))
}

// P12.1: too many operations are told ahead of too many halvings, wherever both are.
func TestManyAheadOfHalvings(t *testing.T) {
	refusedAt(t, "qubits q 1; repeat 37 { h q[0]; } repeat 4059 { x q[0]; } @x q[0];", api.ErrMany)
	refusedAt(t, "qubits q 1; repeat 37 { @h q[0]; } repeat 4059 { x q[0]; }", api.ErrRoots)
	refusedAt(t, "qubits q 1; repeat 5000 { @h q[0]; }", api.ErrMany)
	refusedAt(t, "qubits q 1; repeat 4060 { x q[0]; } repeat 37 { @h q[0]; }", api.ErrMany)
	refusedAt(t, "qubits q 1; repeat 4096 { x q[0]; } repeat 37 { @h q[0]; }", api.ErrMany)
	refusedAt(t, "qubits q 1; gate g a { repeat 4096 { h a; } } g q[0]; @y q[0];", api.ErrMany)
}

// The places of what is too much are those of the rows, whatever they are.
func TestPlacesOfTooMuch(t *testing.T) {
	for _, place := range []int{0, -1, 65536, 1<<63 - 1, -1 << 63} {
		rows := append([]api.Row{{Kind: "qubits", Name: "q", Num: 1, Place: 3}}, again(2, use("x", arg("q", 0)))...)
		rows[1].Place, rows[2].Place = 4, place
		rows[1].Num = 4097
		refusedRows(t, rows, api.ErrMany, place)
		rows[1].Num, rows[2].Name = 37, "h"
		refusedRows(t, rows, api.ErrRoots, place)
		rows[1].Num = 36
		if c, at, e := flat.Flat(rows); e != api.OK || at != 0 || len(c.Ops) != 36 {
			t.Errorf("%v: %v, %d, %d", rows, few(c), at, e)
		}
	}
}
