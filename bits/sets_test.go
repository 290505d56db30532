package bits_test

import (
	"math"
	"slices"
	"sync"
	"testing"

	"cubit/api"
	"cubit/bits"
)

// within goes through all numbers up to mask.
func within(mask uint64) (l []uint64) {
	for x := range mask + 1 {
		if x|mask == mask {
			l = append(l, x)
		}
	}
	return l
}

func TestExamplesOfSets(t *testing.T) {
	if l := slices.Collect(bits.Subsets(5)); !slices.Equal(l, []uint64{0, 1, 4, 5}) {
		t.Errorf("Subsets(5): %v", l)
	}
	if l := slices.Collect(bits.Subsets(0)); !slices.Equal(l, []uint64{0}) {
		t.Errorf("Subsets(0): %v", l)
	}
	if l := slices.Collect(bits.Subsets(1 << 63)); !slices.Equal(l, []uint64{0, 1 << 63}) {
		t.Errorf("Subsets(2^63): %v", l)
	}
	if l := slices.Collect(bits.Subsets(1<<63 | 1)); !slices.Equal(l, []uint64{0, 1, 1 << 63, 1<<63 | 1}) {
		t.Errorf("Subsets(2^63 + 1): %v", l)
	}
	if l, e := bits.Of(4, 2); !slices.Equal(l, []uint64{3, 5, 6, 9, 10, 12}) || e != api.OK {
		t.Errorf("Of(4, 2): %v, %d", l, e)
	}
	if l, e := bits.Of(0, 0); !slices.Equal(l, []uint64{0}) || e != api.OK {
		t.Errorf("Of(0, 0): %v, %d", l, e)
	}
	if l, e := bits.Of(16, 16); !slices.Equal(l, []uint64{65535}) || e != api.OK {
		t.Errorf("Of(16, 16): %v, %d", l, e)
	}
}

func TestSubsetsOfSmallMasks(t *testing.T) {
	for mask := range uint64(1 << 10) {
		if l := slices.Collect(bits.Subsets(mask)); !slices.Equal(l, within(mask)) {
			t.Errorf("Subsets(%b): %v", mask, l)
		}
	}
}

// P3.3: masks with ones anywhere. The subsets are the numbers below 2^c with their bits put at the ones, and so rise with them.
func TestSubsetsOfAnyMask(t *testing.T) {
	s := source(7)
	for c := range 13 {
		for range 20 {
			places := s.places(c)
			slices.Sort(places)
			mask, _ := bits.Put(0, places, 1<<c-1)
			n := uint64(0)
			last := uint64(0)
			for set := range bits.Subsets(mask) {
				if want, _ := bits.Put(0, places, n); set != want {
					t.Fatalf("Subsets(%b): number %d is %b, not %b", mask, n, set, want)
				}
				if n > 0 && set <= last {
					t.Fatalf("Subsets(%b): %b behind %b", mask, set, last)
				}
				last = set
				n++
			}
			if n != 1<<c {
				t.Fatalf("Subsets(%b): %d of them, not %d", mask, n, 1<<c)
			}
		}
	}
}

func TestSubsetsOfGreatMasks(t *testing.T) {
	n := uint64(0)
	for set := range bits.Subsets(all) {
		if set != n {
			t.Fatalf("number %d of all is %d", n, set)
		}
		if n++; n == 100000 {
			break
		}
	}
	n = 0
	for set := range bits.Subsets(all - 1) {
		if set != 2*n {
			t.Fatalf("number %d of all even ones is %d", n, set)
		}
		if n++; n == 100000 {
			break
		}
	}
}

// Left after each number of steps, it calls no further, and begins anew the next time.
func TestSubsetsLeftEarly(t *testing.T) {
	const mask = 0b101101
	want := within(mask)
	seq := bits.Subsets(mask)
	for many := 1; many <= len(want); many++ {
		var l []uint64
		seq(func(set uint64) bool {
			l = append(l, set)
			return len(l) < many
		})
		if !slices.Equal(l, want[:many]) {
			t.Errorf("left after %d: %v, not %v", many, l, want[:many])
		}
	}
	for range 3 {
		if l := slices.Collect(seq); !slices.Equal(l, want) {
			t.Errorf("gone over again: %v, not %v", l, want)
		}
	}
}

// Several goings-over of one iterator at once don't meet: within one another, and in goroutines.
func TestSubsetsAtOnce(t *testing.T) {
	const mask = 0b1011
	want := within(mask)
	seq := bits.Subsets(mask)
	var outer []uint64
	for set := range seq {
		outer = append(outer, set)
		if l := slices.Collect(seq); !slices.Equal(l, want) {
			t.Errorf("within number %d: %v", set, l)
		}
	}
	if !slices.Equal(outer, want) {
		t.Errorf("around others: %v", outer)
	}
	var group sync.WaitGroup
	lists := make([][]uint64, 8)
	for i := range lists {
		group.Go(func() { lists[i] = slices.Collect(seq) })
	}
	group.Wait()
	for _, l := range lists {
		if !slices.Equal(l, want) {
			t.Errorf("in a goroutine: %v", l)
		}
	}
}

// P3.3, and each list by counting digits.
func TestOf(t *testing.T) {
	for n := range 17 {
		var together []uint64
		for ones := range n + 1 {
			l, e := bits.Of(n, ones)
			if e != api.OK || !slices.IsSorted(l) {
				t.Fatalf("Of(%d, %d): %d, or not rising", n, ones, e)
			}
			for _, x := range l {
				if bits.Count(x) != ones {
					t.Fatalf("Of(%d, %d) has %b", n, ones, x)
				}
			}
			if other, _ := bits.Of(n, n-ones); len(other) != len(l) || len(l) != choose(n, ones) {
				t.Fatalf("Of(%d, %d) has %d, with noughts and ones exchanged %d, not %d", n, ones, len(l), len(other), choose(n, ones))
			}
			together = append(together, l...)
		}
		slices.Sort(together)
		if len(together) != 1<<n {
			t.Fatalf("Of(%d, ..): %d together", n, len(together))
		}
		for x := range together {
			if together[x] != uint64(x) {
				t.Fatalf("Of(%d, ..) has not %d, or not once", n, x)
			}
		}
	}
}

// choose by Pascal's triangle.
func choose(n, k int) int {
	if k == 0 || k == n {
		return 1
	}
	return choose(n-1, k-1) + choose(n-1, k)
}

func TestOfRefused(t *testing.T) {
	for _, c := range [][2]int{
		{-1, 0}, {-1, -1}, {17, 0}, {17, 1}, {17, 17}, {64, 0}, {64, 64}, {65, 1}, {math.MaxInt, 0}, {math.MinInt, 0}, {math.MinInt, math.MinInt}, {math.MaxInt, math.MaxInt},
		{0, -1}, {0, 1}, {4, -1}, {4, 5}, {16, -1}, {16, 17}, {16, math.MaxInt}, {16, math.MinInt}, {1 << 32, 0}, {4, 1 << 32},
	} {
		if l, e := bits.Of(c[0], c[1]); len(l) != 0 || e != api.ErrArg {
			t.Errorf("Of(%d, %d): %d numbers, %d", c[0], c[1], len(l), e)
		}
	}
}

func TestOfIsNewEachTime(t *testing.T) {
	l, _ := bits.Of(4, 2)
	want := slices.Clone(l)
	for i := range l[:cap(l)] {
		l[:cap(l)][i] = 99
	}
	if again, _ := bits.Of(4, 2); !slices.Equal(again, want) {
		t.Errorf("Of(4, 2) behind a change of its answer: %v", again)
	}
}
