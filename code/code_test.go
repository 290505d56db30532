package code_test

import (
	"testing"

	"cubit/api"
	"cubit/code"
)

// The face, as the chapter writes it.
var (
	_ func(api.Code) api.Errno                         = code.Check
	_ func(string) (api.Code, api.Errno)               = code.Named
	_ func(api.Code, api.Pauli) (uint64, api.Errno)    = code.Syndrome
	_ func(api.Code, api.Pauli) (api.Pauli, api.Errno) = code.Logical
	_ func(api.Code) (int, api.Errno)                  = code.Distance
	_ func(api.Code, uint64) (api.Pauli, api.Errno)    = code.Decode
)

// The numbers of the chapter's errors and of the limit.
func TestNumbers(t *testing.T) {
	if api.OK != 0 || api.ErrLong != 1 || api.ErrArg != 2 || api.ErrPauli != 70 || api.ErrCode != 230 || api.MaxRows != rows {
		t.Error("other numbers than the chapter's")
	}
}

// named is a code that must be there and be right.
func named(t *testing.T, name string) api.Code {
	t.Helper()
	c, e := code.Named(name)
	if e != api.OK {
		t.Fatalf("Named(%q): %d", name, e)
	}
	if e := code.Check(c); e != api.OK {
		t.Fatalf("Check of %q, %v: %d", name, c, e)
	}
	return c
}

// names are those that the chapter lists.
func names() []string { return []string{"bit3", "phase3", "five", "steane"} }

// hasSyndrome asks for what Syndrome tells of a string.
func hasSyndrome(t *testing.T, c api.Code, p api.Pauli, want uint64) {
	t.Helper()
	if got, e := code.Syndrome(c, p); got != want || e != api.OK {
		t.Errorf("Syndrome(%v, %v): %d, %d, not %d", c, p, got, e, want)
	}
}

// hasLogical asks for what Logical tells of a string.
func hasLogical(t *testing.T, c api.Code, p, want api.Pauli) {
	t.Helper()
	if got, e := code.Logical(c, p); got != want || e != api.OK {
		t.Errorf("Logical(%v, %v): %v, %d, not %v", c, p, got, e, want)
	}
}

// breaks asks that Logical tells that a string breaks a generator.
func breaks(t *testing.T, c api.Code, p api.Pauli) {
	t.Helper()
	if got, e := code.Logical(c, p); got != (api.Pauli{}) || e != api.ErrArg {
		t.Errorf("Logical(%v, %v): %v, %d, not %d", c, p, got, e, api.ErrArg)
	}
}

// hasDistance asks for what Distance tells.
func hasDistance(t *testing.T, c api.Code, want int) {
	t.Helper()
	if got, e := code.Distance(c); got != want || e != api.OK {
		t.Errorf("Distance(%v): %d, %d, not %d", c, got, e, want)
	}
}

// decodes asks for what Decode tells of a number.
func decodes(t *testing.T, c api.Code, syndrome uint64, want api.Pauli) {
	t.Helper()
	if got, e := code.Decode(c, syndrome); got != want || e != api.OK {
		t.Errorf("Decode(%v, %d): %v, %d, not %v", c, syndrome, got, e, want)
	}
}

// The chapter's examples.
func TestExamples(t *testing.T) {
	b := named(t, "bit3")
	hasSyndrome(t, b, spelled("XII"), 1)
	hasSyndrome(t, b, spelled("IXI"), 3)
	hasSyndrome(t, b, spelled("ZII"), 0)
	hasLogical(t, b, spelled("ZII"), spelled("Z"))
	hasLogical(t, b, spelled("XXX"), spelled("X"))
	hasLogical(t, b, spelled("ZZI"), spelled("I"))
	breaks(t, b, spelled("XII"))
	decodes(t, b, 1, spelled("XII"))
	decodes(t, b, 2, spelled("IIX"))
	decodes(t, b, 3, spelled("IXI"))
	decodes(t, b, 0, spelled("III"))
	if p, e := code.Decode(b, 4); p != (api.Pauli{}) || e != api.ErrArg {
		t.Errorf("Decode(bit3, 4): %v, %d", p, e)
	}
	hasDistance(t, named(t, "five"), 3)
	hasDistance(t, named(t, "steane"), 3)
	hasSyndrome(t, named(t, "five"), spelled("YIIII"), 13)
	if c, e := code.Named("shor"); !same(c, api.Code{}) || e != api.ErrArg {
		t.Errorf("Named(shor): %v, %d", c, e)
	}
}

// The table of the named codes, bit by bit.
func TestNamedCodes(t *testing.T) {
	x := func(n int, number uint64) api.Pauli { return api.Pauli{N: n, X: number} }
	z := func(n int, number uint64) api.Pauli { return api.Pauli{N: n, Z: number} }
	y := func(x, z uint64) api.Pauli { return api.Pauli{N: 5, X: x, Z: z} }
	for name, want := range map[string]api.Code{
		"bit3":   {N: 3, Gens: []api.Pauli{z(3, 3), z(3, 6)}, X: []api.Pauli{x(3, 7)}, Z: []api.Pauli{z(3, 1)}},
		"phase3": {N: 3, Gens: []api.Pauli{x(3, 3), x(3, 6)}, X: []api.Pauli{z(3, 7)}, Z: []api.Pauli{x(3, 1)}},
		"five":   {N: 5, Gens: []api.Pauli{y(9, 6), y(18, 12), y(5, 24), y(10, 17)}, X: []api.Pauli{x(5, 31)}, Z: []api.Pauli{z(5, 31)}},
		"steane": {N: 7, Gens: []api.Pauli{x(7, 120), x(7, 102), x(7, 85), z(7, 120), z(7, 102), z(7, 85)}, X: []api.Pauli{x(7, 127)}, Z: []api.Pauli{z(7, 127)}},
	} {
		if got := named(t, name); !same(got, want) {
			t.Errorf("%s: %v, not %v", name, got, want)
		}
	}
}

// Names that are nearly one are none.
func TestOtherNames(t *testing.T) {
	all := []string{"", " ", "shor", "bit", "bit2", "bit4", "phase", "phase2", "Five", "FIVE", "5", "fiv", "fivefive", "Steane", "stean", "bit3phase3", "bit3,", "five\x00", "\xff", "phase３", "0", "four"}
	for _, name := range names() {
		all = append(all, " "+name, name+" ", name+"\n", name+"3", name[1:], name[:len(name)-1], "\x00"+name, name+name, "é"+name)
		for i := range len(name) {
			for _, change := range []byte{1, 32, 128} {
				other := []byte(name)
				other[i] ^= change
				all = append(all, string(other))
			}
		}
	}
	for _, name := range all {
		if c, e := code.Named(name); !same(c, api.Code{}) || e != api.ErrArg {
			t.Errorf("Named(%q): %v, %d", name, c, e)
		}
	}
}

// Each Phase of a string that is asked about is one and the same, and answers have the Phase 0.
func TestPhasesDontMatter(t *testing.T) {
	b := named(t, "bit3")
	for phase := range 4 {
		p := spelled("XIY")
		p.Phase = phase
		hasSyndrome(t, b, p, 3)
		breaks(t, b, p)
		l := spelled("YYY")
		l.Phase = phase
		hasSyndrome(t, b, l, 0)
		hasLogical(t, b, l, spelled("Y"))
	}
}

// Several logical qubits: an X on one is seen by its string in Z, and the other way round.
func TestLogicalQubitByQubit(t *testing.T) {
	c := two()
	for letters, want := range map[string]string{
		"IIII": "II", "XXXX": "II", "ZZZZ": "II", "YYYY": "II",
		"XXII": "XI", "XIXI": "IX", "ZIZI": "ZI", "ZZII": "IZ",
		"IXXI": "XX", "IIXX": "XI", "IIZZ": "IZ", "IZZI": "ZZ", "YXZI": "YI", "YYII": "XZ",
	} {
		hasLogical(t, c, spelled(letters), spelled(want))
	}
	for _, letters := range []string{"XIII", "ZIII", "YIII", "XYII", "IIIZ"} {
		breaks(t, c, spelled(letters))
	}
	hasSyndrome(t, c, spelled("IIIZ"), 1)
	hasSyndrome(t, c, spelled("IIIX"), 2)
	hasSyndrome(t, c, spelled("IYII"), 3)
	hasDistance(t, c, 2)
}

// Codes without generators, and such without logical qubits.
func TestNothingOfAKind(t *testing.T) {
	for n := 1; n <= search; n++ {
		c := bare(n)
		hasDistance(t, c, 1)
		decodes(t, c, 0, api.Pauli{N: n})
		p := api.Pauli{N: n, X: 1<<n - 1, Z: 1 << (n - 1)}
		hasSyndrome(t, c, p, 0)
		hasLogical(t, c, p, p)
	}
	c := alone("XX", "ZZ")
	hasDistance(t, c, 0)
	hasLogical(t, c, spelled("YY"), api.Pauli{})
	breaks(t, c, spelled("YI"))
	decodes(t, c, 0, spelled("II"))
	decodes(t, c, 1, spelled("ZI"))
	decodes(t, c, 2, spelled("XI"))
	decodes(t, c, 3, spelled("YI"))
}
