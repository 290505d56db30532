package bits_test

import (
	"fmt"
	"math"
	"strings"
	"testing"

	"cubit/api"
	"cubit/bits"
)

func TestExamplesOfTexts(t *testing.T) {
	for _, c := range []struct {
		s string
		x uint64
		n int
	}{
		{"0101", 5, 4}, {"", 0, 0}, {"0", 0, 1}, {"1", 1, 1}, {"10", 2, 2}, {"011", 3, 3}, {"100", 4, 3}, {"001", 1, 3},
		{strings.Repeat("0", 64), 0, 64},
		{strings.Repeat("1", 64), all, 64},
		{strings.Repeat("1", 63), 1<<63 - 1, 63},
		{"1" + strings.Repeat("0", 63), 1 << 63, 64},
		{strings.Repeat("0", 63) + "1", 1, 64},
	} {
		if got, e := bits.Text(c.x, c.n); got != c.s || e != api.OK {
			t.Errorf("Text(%d, %d): %q, %d, not %q", c.x, c.n, got, e, c.s)
		}
		if x, n, e := bits.Parse(c.s); x != c.x || n != c.n || e != api.OK {
			t.Errorf("Parse(%q): %d, %d, %d, not %d, %d", c.s, x, n, e, c.x, c.n)
		}
	}
}

// P3.5: each number with each n that it fits in; and ErrArg with each that it doesn't.
func TestTextThereAndBack(t *testing.T) {
	for _, number := range numbers() {
		for n := range 65 {
			x := number
			if n < 64 && x >= worth(n) {
				if got, e := bits.Text(x, n); got != "" || e != api.ErrArg {
					t.Fatalf("Text(%d, %d): %q, %d, not ErrArg", x, n, got, e)
				}
				x %= worth(n)
			}
			want := fmt.Sprintf("%064b", x)[64-n:]
			text, e := bits.Text(x, n)
			if text != want || e != api.OK {
				t.Fatalf("Text(%d, %d): %q, %d, not %q", x, n, text, e, want)
			}
			if got, many, e := bits.Parse(text); got != x || many != n || e != api.OK {
				t.Fatalf("Parse(%q): %d, %d, %d, not %d, %d", text, got, many, e, x, n)
			}
		}
	}
}

// P3.5 from the text's side: all texts of up to 12 bytes.
func TestParseThereAndBack(t *testing.T) {
	texts := []string{""}
	for i := 0; i < len(texts); i++ {
		s := texts[i]
		if len(s) < 12 {
			texts = append(texts, s+"0", s+"1")
		}
		x, n, e := bits.Parse(s)
		if n != len(s) || e != api.OK {
			t.Fatalf("Parse(%q): %d, %d, %d", s, x, n, e)
		}
		if got, e := bits.Text(x, n); got != s || e != api.OK {
			t.Fatalf("Text(Parse(%q)): %q, %d", s, got, e)
		}
	}
}

func TestTextRefused(t *testing.T) {
	for _, x := range []uint64{0, 1, 5, all} {
		for _, n := range []int{-1, 65, 66, 128, -64, 1 << 32, -1 << 32, math.MaxInt, math.MinInt} {
			if got, e := bits.Text(x, n); got != "" || e != api.ErrArg {
				t.Errorf("Text(%d, %d): %q, %d", x, n, got, e)
			}
		}
	}
	for n := range 64 {
		for _, x := range []uint64{1 << n, all, all << n, 1<<63 | 1} {
			if got, e := bits.Text(x, n); got != "" || e != api.ErrArg {
				t.Errorf("Text(%d, %d): %q, %d", x, n, got, e)
			}
		}
	}
}

func TestParseRefusesOtherBytes(t *testing.T) {
	for b := range 256 {
		if b == '0' || b == '1' {
			continue
		}
		for _, around := range [][2]string{{"", ""}, {"01", ""}, {"", "10"}, {"1", "1"}, {strings.Repeat("1", 63), ""}, {"", strings.Repeat("0", 63)}} {
			s := around[0] + string([]byte{byte(b)}) + around[1]
			if x, n, e := bits.Parse(s); x != 0 || n != 0 || e != api.ErrNumber {
				t.Errorf("Parse(%q): %d, %d, %d, not ErrNumber", s, x, n, e)
			}
		}
	}
	for _, s := range []string{"012", "0b1", "-1", "+1", " 1", "1 ", "1\n", "0x1", "1_0", "١", "１", "é", "\xff"} {
		if x, n, e := bits.Parse(s); x != 0 || n != 0 || e != api.ErrNumber {
			t.Errorf("Parse(%q): %d, %d, %d, not ErrNumber", s, x, n, e)
		}
	}
}

// ErrLong counts bytes, and is looked for ahead of ErrNumber.
func TestParseRefusesLongTexts(t *testing.T) {
	for _, s := range []string{
		strings.Repeat("0", 65), strings.Repeat("1", 65), strings.Repeat("01", 50000),
		strings.Repeat("2", 65), "x" + strings.Repeat("0", 64), strings.Repeat("0", 64) + "x", strings.Repeat("é", 33),
	} {
		if x, n, e := bits.Parse(s); x != 0 || n != 0 || e != api.ErrLong {
			t.Errorf("Parse of %d bytes: %d, %d, %d, not ErrLong", len(s), x, n, e)
		}
	}
	if x, n, e := bits.Parse(strings.Repeat("é", 32)); x != 0 || n != 0 || e != api.ErrNumber {
		t.Errorf("Parse of 64 other bytes: %d, %d, %d, not ErrNumber", x, n, e)
	}
}
