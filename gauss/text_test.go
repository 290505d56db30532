package gauss_test

import (
	"fmt"
	"regexp"
	"strings"
	"testing"

	"cubit/api"
	"cubit/gauss"
)

// written is the text by another way: fmt's numbers with their signs, and then what the chapter leaves out taken away.
func written(x complex128) string {
	a, b := int64(real(x)), int64(imag(x))
	switch {
	case b == 0:
		return fmt.Sprintf("%d", a)
	case a == 0:
		return strings.TrimPrefix(signed(b), "+")
	}
	return fmt.Sprintf("%d", a) + signed(b)
}

func signed(b int64) string {
	if b == 1 || b == -1 {
		return fmt.Sprintf("%+d", b)[:1] + "i"
	}
	return fmt.Sprintf("%+di", b)
}

func TestTextExamples(t *testing.T) {
	for s, x := range map[string]complex128{
		"0": 0, "i": 1i, "-1-i": -1 - 1i, "-7i": -7i, "3+4i": 3 + 4i,
		"1": 1, "-1": -1, "-i": -1i, "1+i": 1 + 1i, "-1+i": -1 + 1i, "1-i": 1 - 1i, "10-10i": 10 - 10i, "11i": 11i, "-11i": -11i, "2-12i": 2 - 12i, "100": 100,
		"9007199254740991":                    top,
		"-9007199254740991":                   -top,
		"9007199254740991i":                   complex(0, top),
		"-9007199254740991-9007199254740991i": complex(-top, -top),
		"9007199254740991+9007199254740991i":  complex(top, top),
		"-9007199254740990+i":                 complex(-top+1, 1),
	} {
		if got, e := gauss.Text(x); got != s || e != api.OK {
			t.Errorf("Text(%v): %q, %d, not %q", x, got, e, s)
		}
		if got, e := gauss.Parse(s); !same(got, x) || e != api.OK {
			t.Errorf("Parse(%q): %v, %d, not %v", s, got, e, x)
		}
	}
}

func TestThereAndBack(t *testing.T) {
	l := rightNumbers()
	s := source(5)
	for range 20000 {
		l = append(l, s.number(53), s.number(4))
	}
	for _, x := range l {
		text, e := gauss.Text(x)
		if text != written(x) || e != api.OK {
			t.Fatalf("Text(%v): %q, %d, not %q", x, text, e, written(x))
		}
		if back, e := gauss.Parse(text); !same(back, x) || e != api.OK {
			t.Fatalf("Parse(%q): %v, %d", text, back, e)
		}
	}
}

func TestNoNumbers(t *testing.T) {
	for _, s := range []string{
		"", " ", "1i", "+1", "01", "1+0i", "-0", "i1", "-1i", "+i", "+2i", "0i", "-0i", "0+i", "0-2i", "-0+i", "00", "-01", "007i", "1+01i", "1+1i", "2-1i",
		"1+", "1-", "-", "+", "--1", "--i", "1--i", "1+-i", "1-+i", "1++i", "1+2", "1+2+3i", "1+i+i", "2i+1", "i+1", "1 + i", " 1", "1 ", "1\n", "ii", "1ii", "2i2", "I", "1+I", "1,5", "1.0", "1e3", "0x1", "1_000", "NaN", "Inf", "(1+i)",
		"1+2j", "\x00", "1\x00", "\xff", "1\xffi", "１", "٣", "2−i", "−1", "1+２i", "²i",
		"99999999999999999999999-1i", "099999999999999999999999", "99999999999999999999999+0i", "+99999999999999999999999", "99999999999999999999999+", "0+99999999999999999999999i", "99999999999999999999999i+1", "9999999999999999999999 9", "99999999999999999999999-99999999999999999999999", "99999999999999999999999ii",
	} {
		if x, e := gauss.Parse(s); !same(x, 0) || e != api.ErrNumber {
			t.Errorf("Parse(%q): %v, %d", s, x, e)
		}
	}
}

func TestBigNumbers(t *testing.T) {
	long := strings.Repeat("9", 100000)
	for _, s := range []string{
		"9007199254740992", "-9007199254740992", "9007199254740992i", "-9007199254740992i", "9007199254740993", "1+9007199254740992i", "1-9007199254740992i", "9007199254740992+i", "-9007199254740992-i", "10000000000000000", "9223372036854775807", "9223372036854775808", "18446744073709551616", "18446744073709551617i", "-18446744073709551616+2i", "90071992547409910",
		"99999999999999999999999-i", "36893488147419103232+36893488147419103232i", long, "-" + long, long + "i", "-" + long + "-" + long + "i", "7+" + long + "i",
	} {
		if x, e := gauss.Parse(s); !same(x, 0) || e != api.ErrBig {
			t.Errorf("Parse(%.40q): %v, %d", s, x, e)
		}
	}
	for _, s := range []string{long + "-", "0" + long, long + "+0i", long + "+1i"} {
		if x, e := gauss.Parse(s); !same(x, 0) || e != api.ErrNumber {
			t.Errorf("Parse(%.40q): %v, %d", s, x, e)
		}
	}
}

// numberText: the texts of all numbers of any size, by the chapter's rules.
var numberText = regexp.MustCompile(`^(0|-?[1-9][0-9]*|(-?[1-9][0-9]*[+-]|-?)([2-9]|[1-9][0-9]+)?i)$`)

// TestAllShortTexts: each text of up to six of these signs.
func TestAllShortTexts(t *testing.T) {
	const signs = "0129+-i "
	l := []string{""}
	for begin := 0; len(l[begin]) < 6; begin++ {
		for _, c := range signs {
			l = append(l, l[begin]+string(c))
		}
	}
	read := 0
	for _, s := range l {
		x, e := gauss.Parse(s)
		if !numberText.MatchString(s) {
			if !same(x, 0) || e != api.ErrNumber {
				t.Fatalf("Parse(%q): %v, %d", s, x, e)
			}
			continue
		}
		read++
		if back, f := gauss.Text(x); e != api.OK || f != api.OK || back != s {
			t.Fatalf("Parse(%q): %v, %d, whose text is %q, %d", s, x, e, back, f)
		}
	}
	if read < 1000 {
		t.Errorf("only %d texts were read", read)
	}
}
