package root_test

import (
	"math"
	"testing"

	"cubit/api"
	"cubit/root"
)

// wrongRoots: none of these is a root in its one form.
func wrongRoots() []api.Root {
	l := []api.Root{
		at(0, 0, 1), at(2, 0, 1), at(0, 2, 1), at(2, 2, 1), at(-2, 4, 60), at(0, -2, 60), at(1<<52, 0, 52), at(top-1, 1-top, 30),
		at(2, 0, 61), at(0, 0, -1), at(2, 2, -1), at(0, 0, 61),
	}
	for _, p := range []int64{top + 1, -top - 1, top + 2, -top - 2, math.MaxInt64, math.MinInt64} {
		l = append(l, at(p, 0, 0), at(0, p, 0), at(p, 1, 1), at(-1, p, 60), at(p, p, 0), at(p, p, 60), at(p, -top, 0))
	}
	for _, k := range []int{-1, math.MinInt, power + 1, math.MaxInt, 64, -60} {
		l = append(l, at(1, 0, k), at(0, -1, k), at(top, -top, k), at(0, 0, k), at(math.MinInt64, math.MinInt64, k))
	}
	return l
}

func TestCheck(t *testing.T) {
	for _, a := range edges() {
		if e := root.Check(a); e != api.OK {
			t.Errorf("Check(%v): %d", a, e)
		}
	}
	for _, a := range []api.Root{at(0, 0, 0), at(2, 4, 0), at(1, 2, 60), at(2, 1, 60), at(-1, 0, 1), at(0, -1, 1), at(top, top-1, 60), at(-top, 0, 0)} {
		if e := root.Check(a); e != api.OK {
			t.Errorf("Check(%v): %d", a, e)
		}
	}
	for _, a := range wrongRoots() {
		if e := root.Check(a); e != api.ErrArg {
			t.Errorf("Check(%v): %d", a, e)
		}
	}
}

// TestTwoRefuseWrong: in either place, also beside a root with which the sum or product would be refused by size.
func TestTwoRefuseWrong(t *testing.T) {
	calls := map[string]two{"Add": root.Add, "Sub": root.Sub, "Mul": root.Mul}
	for _, a := range wrongRoots() {
		for _, b := range []api.Root{at(0, 0, 0), at(1, 0, 0), at(5, -1, 7), at(top, top, 60), at(-top, -top, 0), at(1, 0, 60), a} {
			for name, f := range calls {
				if z, e := f(a, b); z != (api.Root{}) || e != api.ErrArg {
					t.Errorf("%s(%v, %v): %v, %d", name, a, b, z, e)
				}
				if z, e := f(b, a); z != (api.Root{}) || e != api.ErrArg {
					t.Errorf("%s(%v, %v): %v, %d", name, b, a, z, e)
				}
			}
			if s, e := root.Compare(a, b); s != 0 || e != api.ErrArg {
				t.Errorf("Compare(%v, %v): %d, %d", a, b, s, e)
			}
			if s, e := root.Compare(b, a); s != 0 || e != api.ErrArg {
				t.Errorf("Compare(%v, %v): %d, %d", b, a, s, e)
			}
		}
	}
}

func TestOneRefusesWrong(t *testing.T) {
	for _, a := range wrongRoots() {
		if s, e := root.Sign(a); s != 0 || e != api.ErrArg {
			t.Errorf("Sign(%v): %d, %d", a, s, e)
		}
		if z, e := root.Float(a); math.Float64bits(z) != 0 || e != api.ErrArg {
			t.Errorf("Float(%v): %v, %d", a, z, e)
		}
		if s, e := root.Text(a); s != "" || e != api.ErrArg {
			t.Errorf("Text(%v): %q, %d", a, s, e)
		}
	}
}
