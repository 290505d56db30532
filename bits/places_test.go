package bits_test

import (
	"math"
	"slices"
	"testing"

	"cubit/api"
	"cubit/bits"
)

// wrongPlaces are lists that are no places: one outside, one twice, too many.
func wrongPlaces() [][]int {
	l := [][]int{
		{-1}, {64}, {math.MinInt}, {math.MaxInt}, {65}, {-64}, {0, 64}, {64, 0}, {63, -1}, {1 << 32}, {-1 << 32},
		{0, 0}, {63, 63}, {5, 7, 5}, {1, 2, 3, 3}, {0, 1, 0},
		make([]int, 65), make([]int, 100000),
	}
	rise := make([]int, 65)
	for i := range rise {
		rise[i] = i
	}
	twice := slices.Clone(rise)
	twice[64] = 0
	late := slices.Clone(rise[:64])
	late[63] = 62
	return append(l, rise, twice, late)
}

// rightPlaces are none, each one alone, all in order, all backwards, and others of each length.
func rightPlaces() [][]int {
	var rise, fall []int
	l := [][]int{nil, {}}
	for j := range 64 {
		rise, fall = append(rise, j), append(fall, 63-j)
		l = append(l, []int{j})
	}
	l = append(l, rise, fall)
	s := source(2)
	for many := range 65 {
		l = append(l, s.places(many), s.places(many))
	}
	return l
}

// outside are numbers that are no places.
var outside = []int{-1, 64, -64, 65, 127, 128, 1 << 32, -1 << 32, math.MaxInt, math.MinInt}

func TestExamplesOfPlaces(t *testing.T) {
	type answer struct {
		x uint64
		e api.Errno
	}
	is := func(x uint64, e api.Errno) answer { return answer{x, e} }
	for _, c := range []struct {
		name      string
		got, want answer
	}{
		{"Pick(13, 2 0 3)", is(bits.Pick(13, []int{2, 0, 3})), answer{7, 0}},
		{"Pick(1, 0 0)", is(bits.Pick(1, []int{0, 0})), answer{0, api.ErrArg}},
		{"Pick(2^64 - 1, )", is(bits.Pick(all, nil)), answer{0, 0}},
		{"Pick(2^63, 63)", is(bits.Pick(1<<63, []int{63})), answer{1, 0}},
		{"Pick(2, 0 1)", is(bits.Pick(2, []int{0, 1})), answer{2, 0}},
		{"Pick(2, 1 0)", is(bits.Pick(2, []int{1, 0})), answer{1, 0}},
		{"Put(0, 2 0, 1)", is(bits.Put(0, []int{2, 0}, 1)), answer{4, 0}},
		{"Put(15, 0 3, 0)", is(bits.Put(15, []int{0, 3}, 0)), answer{6, 0}},
		{"Put(5, , 0)", is(bits.Put(5, nil, 0)), answer{5, 0}},
		{"Put(5, , 1)", is(bits.Put(5, nil, 1)), answer{0, api.ErrArg}},
		{"Put(0, 63, 1)", is(bits.Put(0, []int{63}, 1)), answer{1 << 63, 0}},
		{"Put(0, 63, 2)", is(bits.Put(0, []int{63}, 2)), answer{0, api.ErrArg}},
		{"Open(5, 1, 1)", is(bits.Open(5, 1, 1)), answer{11, 0}},
		{"Open(5, 0, 0)", is(bits.Open(5, 0, 0)), answer{10, 0}},
		{"Open(5, 63, 1)", is(bits.Open(5, 63, 1)), answer{1<<63 + 5, 0}},
		{"Open(2^63, 0, 0)", is(bits.Open(1<<63, 0, 0)), answer{0, api.ErrLong}},
		{"Open(2^63 - 1, 0, 1)", is(bits.Open(1<<63-1, 0, 1)), answer{all, 0}},
		{"Open(2^63 - 1, 63, 1)", is(bits.Open(1<<63-1, 63, 1)), answer{all, 0}},
		{"Open(2^63 - 1, 63, 0)", is(bits.Open(1<<63-1, 63, 0)), answer{1<<63 - 1, 0}},
		{"Swap(6, 0, 1)", is(bits.Swap(6, 0, 1)), answer{5, 0}},
		{"Swap(1, 0, 63)", is(bits.Swap(1, 0, 63)), answer{1 << 63, 0}},
		{"Swap(6, 1, 1)", is(bits.Swap(6, 1, 1)), answer{6, 0}},
		{"Swap(6, 1, 2)", is(bits.Swap(6, 1, 2)), answer{6, 0}},
	} {
		if c.got != c.want {
			t.Errorf("%s: %v, not %v", c.name, c.got, c.want)
		}
	}
	if x, bit, e := bits.Close(11, 1); x != 5 || bit != 1 || e != api.OK {
		t.Errorf("Close(11, 1): %d, %d, %d", x, bit, e)
	}
	if x, bit, e := bits.Close(all, 63); x != 1<<63-1 || bit != 1 || e != api.OK {
		t.Errorf("Close(2^64 - 1, 63): %d, %d, %d", x, bit, e)
	}
	if x, bit, e := bits.Close(all-1, 0); x != 1<<63-1 || bit != 0 || e != api.OK {
		t.Errorf("Close(2^64 - 2, 0): %d, %d, %d", x, bit, e)
	}
}

func TestPickByDigits(t *testing.T) {
	for _, places := range rightPlaces() {
		for _, x := range numbers() {
			r, want := rowOf(x), rowOf(0)
			for k, p := range places {
				want[k] = r[p]
			}
			if got, e := bits.Pick(x, places); got != want.number() || e != api.OK {
				t.Fatalf("Pick(%b, %v): %b, %d, not %b", x, places, got, e, want.number())
			}
		}
	}
}

func TestPutByDigits(t *testing.T) {
	s := source(3)
	for _, places := range rightPlaces() {
		for _, x := range numbers() {
			v := s.number()
			if many := len(places); many < 64 {
				v %= worth(many)
			}
			want, r := rowOf(x), rowOf(v)
			for k, p := range places {
				want[p] = r[k]
			}
			if got, e := bits.Put(x, places, v); got != want.number() || e != api.OK {
				t.Fatalf("Put(%b, %v, %b): %b, %d, not %b", x, places, v, got, e, want.number())
			}
		}
	}
}

func TestWrongPlaces(t *testing.T) {
	for _, places := range wrongPlaces() {
		for _, x := range []uint64{0, 1, all} {
			if got, e := bits.Pick(x, places); got != 0 || e != api.ErrArg {
				t.Errorf("Pick(%d, %v): %d, %d", x, places, got, e)
			}
			if got, e := bits.Put(x, places, 0); got != 0 || e != api.ErrArg {
				t.Errorf("Put(%d, %v, 0): %d, %d", x, places, got, e)
			}
		}
	}
}

// A v with a one at len(places) or above, wherever that one is and whatever is below it.
func TestPutOfTooMuch(t *testing.T) {
	s := source(4)
	for _, places := range rightPlaces() {
		for j := len(places); j < 64; j++ {
			for _, v := range []uint64{1 << j, 1<<j | 1, all, all << j, 1<<j | s.number()} {
				if got, e := bits.Put(all, places, v); got != 0 || e != api.ErrArg {
					t.Fatalf("Put(2^64 - 1, %v, %b): %d, %d", places, v, got, e)
				}
			}
		}
	}
}

// P3.2.
func TestPutAndPick(t *testing.T) {
	s := source(5)
	for _, places := range rightPlaces() {
		for _, x := range numbers() {
			v := s.number()
			if many := len(places); many < 64 {
				v %= worth(many)
			}
			put, _ := bits.Put(x, places, v)
			if got, e := bits.Pick(put, places); got != v || e != api.OK {
				t.Fatalf("%b put into %b at %v, and picked again: %b, %d", v, x, places, got, e)
			}
			picked, _ := bits.Pick(x, places)
			if got, e := bits.Put(x, places, picked); got != x || e != api.OK {
				t.Fatalf("%b picked from %b at %v, and put again: %b, %d", picked, x, places, got, e)
			}
		}
	}
}

func TestOpenByDigits(t *testing.T) {
	for _, x := range numbers() {
		r := rowOf(x)
		for at := range 64 {
			for bit := range 2 {
				got, e := bits.Open(x, at, bit)
				if r[63] == '1' {
					if got != 0 || e != api.ErrLong {
						t.Fatalf("Open(%b, %d, %d): %b, %d, not ErrLong", x, at, bit, got, e)
					}
					continue
				}
				l := slices.Insert(slices.Clone(r[:63]), at, byte('0'+bit))
				if want := row(l).number(); got != want || e != api.OK {
					t.Fatalf("Open(%b, %d, %d): %b, %d, not %b", x, at, bit, got, e, want)
				}
			}
		}
	}
}

func TestCloseByDigits(t *testing.T) {
	for _, x := range numbers() {
		r := rowOf(x)
		for at := range 64 {
			want := row(append(slices.Delete(slices.Clone(r[:]), at, at+1), '0')).number()
			got, bit, e := bits.Close(x, at)
			if got != want || bit != int(r[at]-'0') || e != api.OK {
				t.Fatalf("Close(%b, %d): %b, %d, %d, not %b, %c", x, at, got, bit, e, want, r[at])
			}
		}
	}
}

// P3.2.
func TestOpenAndClose(t *testing.T) {
	for _, x := range numbers() {
		for at := range 64 {
			rest, bit, _ := bits.Close(x, at)
			if got, e := bits.Open(rest, at, bit); got != x || e != api.OK {
				t.Fatalf("%b closed at %d and opened again: %b, %d", x, at, got, e)
			}
			for bit := range 2 {
				opened, e := bits.Open(x, at, bit)
				if e != api.OK {
					continue
				}
				if got, b, e := bits.Close(opened, at); got != x || b != bit || e != api.OK {
					t.Fatalf("%b opened at %d with %d and closed again: %b, %d, %d", x, at, bit, got, b, e)
				}
			}
		}
	}
}

// ErrArg is looked for ahead of ErrLong.
func TestOpenAndCloseRefused(t *testing.T) {
	for _, x := range []uint64{0, 5, 1 << 63, all} {
		for _, at := range outside {
			if got, e := bits.Open(x, at, 1); got != 0 || e != api.ErrArg {
				t.Errorf("Open(%d, %d, 1): %d, %d", x, at, got, e)
			}
			if got, bit, e := bits.Close(x, at); got != 0 || bit != 0 || e != api.ErrArg {
				t.Errorf("Close(%d, %d): %d, %d, %d", x, at, got, bit, e)
			}
		}
		for _, bit := range []int{-1, 2, 3, 1 << 32, 1<<32 + 1, math.MaxInt, math.MinInt} {
			for _, at := range []int{0, 1, 63} {
				if got, e := bits.Open(x, at, bit); got != 0 || e != api.ErrArg {
					t.Errorf("Open(%d, %d, %d): %d, %d", x, at, bit, got, e)
				}
			}
		}
	}
}

func TestSwapByDigits(t *testing.T) {
	for _, x := range numbers() {
		r := rowOf(x)
		for i := range 64 {
			for j := range 64 {
				want := r
				want[i], want[j] = r[j], r[i]
				if got, e := bits.Swap(x, i, j); got != want.number() || e != api.OK {
					t.Fatalf("Swap(%b, %d, %d): %b, %d, not %b", x, i, j, got, e, want.number())
				}
			}
		}
	}
}

func TestSwapRefused(t *testing.T) {
	for _, x := range []uint64{0, 6, all} {
		for _, i := range outside {
			for _, j := range append([]int{0, 63}, outside...) {
				if got, e := bits.Swap(x, i, j); got != 0 || e != api.ErrArg {
					t.Errorf("Swap(%d, %d, %d): %d, %d", x, i, j, got, e)
				}
				if got, e := bits.Swap(x, j, i); got != 0 || e != api.ErrArg {
					t.Errorf("Swap(%d, %d, %d): %d, %d", x, j, i, got, e)
				}
			}
		}
	}
}

// What is handed in stays, its spare room included.
func TestPlacesStay(t *testing.T) {
	s := source(6)
	for many := range 65 {
		places := append(s.places(many), 99, -5, 77)[:many]
		kept := slices.Clone(places[:many+3])
		x := s.number()
		bits.Pick(x, places)
		bits.Put(x, places, 0)
		bits.Put(x, places, all)
		if !slices.Equal(places[:many+3], kept) {
			t.Errorf("the places %v became %v", kept, places[:many+3])
		}
	}
}
