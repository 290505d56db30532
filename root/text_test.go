package root_test

import (
	"fmt"
	exact "math/big"
	"regexp"
	"strings"
	"testing"

	"cubit/api"
	"cubit/root"
)

// written is the text by another way: fmt's numbers with their signs.
func written(a api.Root) string {
	s := fmt.Sprintf("%d", a.P)
	switch {
	case a.Q != 0 && a.P == 0:
		s = fmt.Sprintf("%dr", a.Q)
	case a.Q != 0:
		s = fmt.Sprintf("%d%+dr", a.P, a.Q)
	}
	if a.K != 0 {
		s += fmt.Sprintf("/2^%d", a.K)
	}
	return s
}

func TestTextExamples(t *testing.T) {
	for s, a := range map[string]api.Root{
		"0": at(0, 0, 0), "-3": at(-3, 0, 0), "1r": at(0, 1, 0), "5-1r/2^7": at(5, -1, 7),
		"1+2r/2^2": at(1, 2, 2), "2": at(2, 0, 0), "1/2^60": at(1, 0, 60), "1/2^1": at(1, 0, 1), "-1+1r/2^1": at(-1, 1, 1), "3-2r": at(3, -2, 0),
		"-1r": at(0, -1, 0), "-2r": at(0, -2, 0), "3r/2^1": at(0, 3, 1), "-3r/2^10": at(0, -3, 10), "-1-1r": at(-1, -1, 0), "2+1r/2^9": at(2, 1, 9), "1-10r/2^59": at(1, -10, 59), "100+200r": at(100, 200, 0),
		"9007199254740991":                         at(top, 0, 0),
		"-9007199254740991":                        at(-top, 0, 0),
		"9007199254740991r":                        at(0, top, 0),
		"-9007199254740991-9007199254740991r/2^60": at(-top, -top, 60),
		"9007199254740991+9007199254740991r/2^60":  at(top, top, 60),
		"9007199254740990-9007199254740990r":       at(top-1, 1-top, 0),
	} {
		if got, e := root.Text(a); got != s || e != api.OK {
			t.Errorf("Text(%v): %q, %d, not %q", a, got, e, s)
		}
		if got, e := root.Parse(s); got != a || e != api.OK {
			t.Errorf("Parse(%q): %v, %d, not %v", s, got, e, a)
		}
	}
}

func TestThereAndBack(t *testing.T) {
	l := edges()
	s := source(3)
	for range 20000 {
		l = append(l, s.root(53, power), s.root(4, 9))
	}
	for _, a := range l {
		text, e := root.Text(a)
		if text != written(a) || e != api.OK {
			t.Fatalf("Text(%v): %q, %d, not %q", a, text, e, written(a))
		}
		if back, e := root.Parse(text); back != a || e != api.OK {
			t.Fatalf("Parse(%q): %v, %d", text, back, e)
		}
	}
}

func TestNoTexts(t *testing.T) {
	for _, s := range []string{
		"-2r/2^1", "01", "+1", "2/2^1", "1+r",
		"", " ", "r", "-r", "+r", "1-r", "+1r", "+1+1r", "-0", "+0", "00", "0r", "-0r", "0+1r", "0-1r", "-0+1r", "1+0r", "1-0r", "01r", "1+01r", "-01", "-01r",
		"1r+1", "1r1", "1rr", "1r+1r", "1+1+1r", "1-1-1r", "1+-1r", "1-+1r", "1++1r", "1--1r", "--1", "--1r", "-", "+", "1+", "1-", "1+1", "1-1", "1+/2^1", "-/2^1",
		"1/2^0", "1/2^-1", "1/2^+1", "1/2^01", "1/2^", "1/2", "1/", "1/2^61", "1/2^1r", "1/2^1+1r", "1/2^1/2^1", "1/2^/2^1", "1//2^1", "1/2^1 ", "1/2^ 1", "1/2^1.0", "1/2^1e0", "1/3^1", "1/4^1", "1/2**1", "1/2^x", "/2^1", "r/2^1", "0/2^1", "0/2^0", "0r/2^1", "2+2r/2^1", "2r/2^3", "-4-6r/2^60", "1/2^99999999999999999999", "1/2^18446744073709551617", "1/2^4294967297", "1/2^-18446744073709551615",
		" 1", "1 ", "1 + 1r", "1+1 r", "1\n", "\t1", "1R", "1+1R", "1\x00", "\x00", "\xff", "1\xffr", "１", "٣", "−1", "1+２r", "1√2", "1,0", "1.0", "1e3", "0x1", "0b1", "1_0", "1_000r", "NaN", "Inf", "(1+1r)", "1*r",
		"9007199254740992", "-9007199254740992", "9007199254740992r", "-9007199254740992r", "1+9007199254740992r", "9007199254740992-1r", "9007199254740992/2^1", "9007199254740993/2^1", "9223372036854775807", "9223372036854775808", "-9223372036854775808", "-9223372036854775809r", "18446744073709551616", "18446744073709551617", "1-18446744073709551617r", "99999999999999999999999999",
	} {
		if a, e := root.Parse(s); a != (api.Root{}) || e != api.ErrNumber {
			t.Errorf("Parse(%q): %v, %d", s, a, e)
		}
	}
}

var form = regexp.MustCompile(`^(?:(0|-?[1-9][0-9]*)|(-?[1-9][0-9]*)r|(-?[1-9][0-9]*)([+-][1-9][0-9]*)r)(?:/2\^([1-9][0-9]*))?$`)

// meant is the root that s is the text of, by the text's form and its numbers, of any length; false, if there is none.
func meant(s string) (api.Root, bool) {
	m := form.FindStringSubmatch(s)
	if m == nil {
		return api.Root{}, false
	}
	number := func(s string) *exact.Int {
		if s == "" {
			return new(exact.Int)
		}
		n, _ := new(exact.Int).SetString(s, 10)
		return n
	}
	p, q, k := number(m[1]+m[3]), number(m[2]+m[4]), number(m[5])
	most := exact.NewInt(top)
	if p.CmpAbs(most) > 0 || q.CmpAbs(most) > 0 || k.Cmp(exact.NewInt(power)) > 0 {
		return api.Root{}, false
	}
	a := at(p.Int64(), q.Int64(), int(k.Int64()))
	return a, a.K == 0 || p.Bit(0)|q.Bit(0) == 1
}

// TestShortTexts goes over all texts of up to six pieces.
func TestShortTexts(t *testing.T) {
	right := 0
	var each func(s string, left int)
	each = func(s string, left int) {
		want, ok := meant(s)
		wantE := api.ErrNumber
		if ok {
			wantE = api.OK
			right++
		} else {
			want = api.Root{}
		}
		if a, e := root.Parse(s); a != want || e != wantE {
			t.Fatalf("Parse(%q): %v, %d, not %v, %d", s, a, e, want, wantE)
		}
		if left == 0 {
			return
		}
		for _, piece := range []string{"0", "1", "6", "-", "+", "r", "/2^", "^"} {
			each(s+piece, left-1)
		}
	}
	each("", 6)
	if right < 1000 {
		t.Errorf("only %d texts are right", right)
	}
}

// TestChangedTexts: a byte of a right text is put out, doubled or replaced.
func TestChangedTexts(t *testing.T) {
	s := source(17)
	for range 3000 {
		text := written(s.root(53, power))
		for i := range len(text) {
			for _, piece := range []string{"", text[i:i+1] + text[i:i+1], "0", "9", "-", "+", "r", "/", "^", " "} {
				changed := text[:i] + piece + text[i+1:]
				want, ok := meant(changed)
				if !ok {
					want = api.Root{}
				}
				if a, e := root.Parse(changed); a != want || (e == api.OK) != ok || (e == api.ErrNumber) == ok {
					t.Fatalf("Parse(%q): %v, %d, not %v, %v", changed, a, e, want, ok)
				}
			}
		}
	}
}

func TestLongTexts(t *testing.T) {
	const long = 1 << 20
	for _, s := range []string{
		strings.Repeat("9", long), "-" + strings.Repeat("1", long), strings.Repeat("0", long), strings.Repeat("0", long) + "1", strings.Repeat("r", long), strings.Repeat("-", long), strings.Repeat("1+", long) + "1r", strings.Repeat("/2^1", long), "1/2^" + strings.Repeat("0", long) + "1", "1/2^" + strings.Repeat("7", long), strings.Repeat(" ", long) + "1",
	} {
		if a, e := root.Parse(s); a != (api.Root{}) || e != api.ErrNumber {
			t.Errorf("Parse of %d bytes from %q on: %v, %d", len(s), s[:9], a, e)
		}
	}
}
