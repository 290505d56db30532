package coin_test

import (
	"fmt"
	exact "math/big"
	"regexp"
	"strings"
	"testing"

	"cubit/api"
	"cubit/coin"
)

func TestTextExamples(t *testing.T) {
	for s, c := range map[string]api.Coin{
		"3/8": of(3, 3), "0/1": of(0, 0), "0/2": of(0, 1), "1/2": of(1, 1), "0/8": of(0, 3), "4/8": of(4, 3), "10/16": of(10, 4), "100/128": of(100, 7), "65535/65536": of(65535, 16), "0/65536": of(0, 16), "32767/32768": of(32767, 15),
	} {
		if got, e := coin.Text(c); got != s || e != api.OK {
			t.Errorf("Text(%v): %q, %d, not %q", c, got, e, s)
		}
		if got, e := coin.Parse(s); got != c || e != api.OK {
			t.Errorf("Parse(%q): %v, %d, not %v", s, got, e, c)
		}
	}
}

// TestThereAndBack (P16.4): all coins there are.
func TestThereAndBack(t *testing.T) {
	for n := range api.MaxCoin + 1 {
		for num := range uint64(1) << n {
			c := of(num, n)
			s, e := coin.Text(c)
			if s != fmt.Sprintf("%d/%d", num, 1<<n) || e != api.OK {
				t.Fatalf("Text(%v): %q, %d", c, s, e)
			}
			if back, e := coin.Parse(s); back != c || e != api.OK {
				t.Fatalf("Parse(%q): %v, %d", s, back, e)
			}
		}
	}
}

func TestNoTexts(t *testing.T) {
	for _, s := range []string{
		"8/8", "03/8", "1/3",
		"", " ", "/", "//", "0", "1", "3", "8", "/8", "3/", "0/", "/1", "0//1", "3//8", "/3/8", "3/8/", "0/1/", "3/8/1", "0/1/1", "1/1/2",
		"+3/8", "-3/8", "3/+8", "3/-8", "-0/1", "+0/1", "0/+1", "0/-1", "-1/-2", "--0/1",
		" 3/8", "3/8 ", "3 /8", "3/ 8", "3 / 8", "3/8\n", "\t3/8", "\r3/8", "3/8\x00", "\x003/8", "3\x00/8", "\v0/1", "\u00a00/1",
		"00/1", "0/01", "0/001", "000/8", "3/08", "01/2", "1/02", "00/0", "0/00", "3/0008",
		"0/0", "1/0", "0/3", "0/5", "0/6", "0/7", "0/9", "0/12", "0/65535", "0/65537", "0/10", "1/100", "0/1000",
		"1/1", "2/1", "2/2", "3/2", "4/4", "5/4", "9/8", "65536/65536", "65537/65536", "99999/65536", "18446744073709551615/65536",
		"0/131072", "131071/131072", "0/262144", "0/4294967296", "0/9223372036854775808", "0/18446744073709551616", "0/18446744073709551617", "0/18446744073709551624", "0/36893488147419103232", "1/4294967297",
		"18446744073709551616/8", "18446744073709551619/8", "4294967299/8", "99999999999999999999999999/8", "3/99999999999999999999999999", "3/18446744073709551624",
		"3\\8", "3:8", "3|8", "3÷8", "3⁄8", "3∕8", "3／8", "３/8", "3/８", "٣/8", "3/٨", "3/8\xff", "\xff3/8", "\xff", "three/8", "x/8", "3/x", "3x/8", "3/8x", "3/2^3", "3*8", "0x3/8", "0b11/8", "0o3/8", "3/0x8", "3/0b1000", "0_3/8", "3_0/64", "3/1_6", "3.0/8", "3/8.0", "3e0/8", "3/8e0", "1e1/16", "(3/8)", "3/8;", "{3 3}", "3,8", "0.375", "NaN", "Inf/8", "½", "nil",
	} {
		if c, e := coin.Parse(s); c != (api.Coin{}) || e != api.ErrNumber {
			t.Errorf("Parse(%q): %v, %d", s, c, e)
		}
	}
}

var form = regexp.MustCompile(`^(0|[1-9][0-9]*)/([1-9][0-9]*)$`)

// meant is the coin that s is the text of, by the text's form and its numbers, of any length; false, if there is none.
func meant(s string) (api.Coin, bool) {
	m := form.FindStringSubmatch(s)
	if m == nil {
		return api.Coin{}, false
	}
	num, _ := new(exact.Int).SetString(m[1], 10)
	all, _ := new(exact.Int).SetString(m[2], 10)
	n := all.BitLen() - 1
	if int(all.TrailingZeroBits()) != n || n > 16 || num.Cmp(all) >= 0 {
		return api.Coin{}, false
	}
	return of(num.Uint64(), n), true
}

func holdParse(t *testing.T, s string) bool {
	t.Helper()
	want, ok := meant(s)
	wantE := api.OK
	if !ok {
		wantE = api.ErrNumber
	}
	if c, e := coin.Parse(s); c != want || e != wantE {
		t.Fatalf("Parse(%q): %v, %d, not %v, %d", s, c, e, want, wantE)
	}
	return ok
}

// TestShortTexts goes over all texts of up to seven pieces.
func TestShortTexts(t *testing.T) {
	found := 0
	var each func(s string, left int)
	each = func(s string, left int) {
		if holdParse(t, s) {
			found++
		}
		if left == 0 {
			return
		}
		for _, piece := range []string{"0", "1", "2", "4", "6", "/", "-"} {
			each(s+piece, left-1)
		}
	}
	each("", 7)
	if found < 60 {
		t.Errorf("only %d texts are right", found)
	}
}

// TestChangedTexts: a byte of a right text is put out, doubled or replaced by each other byte, or a byte is put ahead or behind.
func TestChangedTexts(t *testing.T) {
	s := source(3)
	for n := range api.MaxCoin + 1 {
		for range 20 {
			text := fmt.Sprintf("%d/%d", s.next()&(1<<n-1), 1<<n)
			for i := range len(text) {
				holdParse(t, text[:i]+text[i+1:])
				for b := range 256 {
					holdParse(t, text[:i]+string([]byte{byte(b)})+text[i+1:])
					holdParse(t, text[:i]+string([]byte{byte(b)})+text[i:])
				}
			}
			for b := range 256 {
				holdParse(t, text+string([]byte{byte(b)}))
			}
		}
	}
}

func TestLongTexts(t *testing.T) {
	const long = 1 << 20
	for _, s := range []string{
		strings.Repeat("9", long), strings.Repeat("0", long), strings.Repeat("/", long), strings.Repeat("0", long) + "/1", "0/" + strings.Repeat("0", long) + "1", strings.Repeat("1", long) + "/2", "1/" + strings.Repeat("2", long), strings.Repeat("0/1", long), strings.Repeat(" ", long) + "0/1", "0/1" + strings.Repeat(" ", long), "0/1" + strings.Repeat("\x00", long), strings.Repeat("3/8/", long),
	} {
		if c, e := coin.Parse(s); c != (api.Coin{}) || e != api.ErrNumber {
			t.Errorf("Parse of %d bytes from %q on: %v, %d", len(s), s[:9], c, e)
		}
	}
}

// TestAnyOrder: what a call answers hangs on no call before it.
func TestAnyOrder(t *testing.T) {
	done := make(chan string)
	const many = 8
	for i := range many {
		go func() {
			s := source(i)
			for range 500 {
				one, all := s.weights(20, 20)
				c := s.coin(s.below(api.MaxCoin+1), 3)
				want, wantCertain, wantE := told(c, one, all)
				text, _ := coin.Text(c)
				back, _ := coin.Parse(text)
				if got, certain, e := coin.Toss(c, one, all); got != want || certain != wantCertain || e != wantE || back != c {
					done <- fmt.Sprint("Toss", c, one, all, got, certain, e, text, back)
					return
				}
			}
			done <- ""
		}()
	}
	for range many {
		if s := <-done; s != "" {
			t.Error(s)
		}
	}
}
