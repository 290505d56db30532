package amp_test

import (
	"fmt"
	exact "math/big"
	"regexp"
	"strconv"
	"strings"
	"testing"

	"cubit/amp"
	"cubit/api"
)

// written is the text by another way: fmt's numbers with their signs, and then what isn't to be written taken away.
func written(a api.Amp) string {
	s := writtenNumber(a.R.A) + "," + writtenNumber(a.R.B)
	if a.K != 0 {
		s += fmt.Sprintf("/%d", a.K)
	}
	return s
}

func writtenNumber(x complex128) string {
	a, b := int64(real(x)), int64(imag(x))
	if b == 0 {
		return fmt.Sprintf("%d", a)
	}
	s := fmt.Sprintf("%+d%+di", a, b)
	if b == 1 || b == -1 {
		s = strings.TrimSuffix(s, "1i") + "i"
	}
	return strings.TrimPrefix(strings.TrimPrefix(s, "+0"), "+")
}

func TestTextExamples(t *testing.T) {
	for s, a := range map[string]api.Amp{
		"1,0": at(1, 0, 0), "1,0/1": at(1, 0, 1), "0,0": at(0, 0, 0), "0,1": at(0, 1, 0), "0,1-i": at(0, 1-1i, 0), "i,0": at(1i, 0, 0), "1,0/2": at(1, 0, 2), "1,1": at(1, 1, 0),
		"0,-i/1": at(0, -1i, 1), "-1,-i/60": at(-1, -1i, 60), "2-3i,-5+7i/9": at(2-3i, -5+7i, 9), "2,0": at(2, 0, 0), "-7i,3/10": at(-7i, 3, 10), "1+i,1/59": at(1+1i, 1, 59),
		"9007199254740991,-9007199254740991i/60":                                    at(top, complex(0, -top), 60),
		"-9007199254740991-9007199254740991i,9007199254740991+9007199254740991i":    at(complex(-top, -top), complex(top, top), 0),
		"9007199254740991+9007199254740990i,-9007199254740990-9007199254740991i/30": at(complex(top, top-1), complex(1-top, -top), 30),
	} {
		if got, e := amp.Text(a); got != s || e != api.OK {
			t.Errorf("Text(%v): %q, %d, not %q", a, got, e, s)
		}
		if got, e := amp.Parse(s); !same(got, a) || e != api.OK {
			t.Errorf("Parse(%q): %v, %d, not %v", s, got, e, a)
		}
	}
}

func TestThereAndBack(t *testing.T) {
	l := edges()
	s := source(6)
	for range 5000 {
		l = append(l, s.amp(53, power), s.amp(4, 9), s.amp(2, power))
	}
	for _, a := range l {
		text, e := amp.Text(a)
		if text != written(a) || e != api.OK {
			t.Fatalf("Text(%v): %q, %d, not %q", a, text, e, written(a))
		}
		if back, e := amp.Parse(text); !same(back, a) || e != api.OK {
			t.Fatalf("Parse(%q): %v, %d", text, back, e)
		}
	}
}

// TestNotInOneForm: such texts are read too, and what they are is told in its one form.
func TestNotInOneForm(t *testing.T) {
	for s, want := range map[string]string{
		"2,0/2": "1,0", "0,0/1": "0,0", "0,0/9": "0,0", "0,0/60": "0,0", "0,0/99": "0,0", "0,0/120": "0,0", "2,0/1": "0,1-i", "1+i,0/1": "0,1", "1+i,0/61": "0,1/60", "-2i,4/62": "-i,2/60",
		"1073741824,0/120": "1,0/60", "4503599627370496,0/104": "1,0", "4503599627370496,0/120": "1,0/16", "9007199254740991+9007199254740991i,0/61": "0,9007199254740991/60",
	} {
		a, e := amp.Parse(s)
		if got, f := amp.Text(a); got != want || e != api.OK || f != api.OK {
			t.Errorf("Parse(%q): %q, %d, %d, not %q", s, got, e, f, want)
		}
	}
}

func TestNoTexts(t *testing.T) {
	long := strings.Repeat("9", 100000)
	for _, s := range []string{
		"1, 0", "1,0/0", "1,0/01", "1",
		"", ",", ",,", "/", ",/1", "1,", ",1", "1,/1", ",1/1", "/1", "1/1", "0", "1,0,0", "1,,0", ",1,0", "1,0,", "1,0,/1", "1,0/1,0", "1/1,0", "1/1,0/1", "1/,0", "1;0", "1 0",
		"1,0/", "1,0//1", "1,0/1/", "1,0/1/1", "1,0/00", "1,0/000", "1,0/001", "1,0/010", "1,0/012", "1,0/1000", "1,0/0001", "1,0/0100", "1,0/1201", "1,0/99999999999999999999", "1,0/4294967297", "1,0/18446744073709551617", "1,0/" + long,
		"1,0/-1", "1,0/+1", "1,0/-0", "1,0/ 1", "1,0/1 ", "1,0 /1", " 1,0", "1,0 ", "1 ,0", "1,0\n", "1,0/1\n", "1,0/a", "1,0/1a", "1,0/a1", "1,0/1.", "1,0/1e1", "1,0/x1", "1,0/1_0", "1,0/i", "1,0/1i", "1,0/1:", "1,0/:", "1,0/:1", "1,0/1/1", "1,0\\1", "1,0/2^1", "1,0/\x001", "1,0/\xff", "1,0/１", "1,0/٣", "1,0/1\x00",
		"01,0", "0,01", "+1,0", "0,+1", "-0,0", "0,-0", "1i,0", "0,1i", "0+i,0", "1+0i,0", "0,1+0i", "1+1i,0", "1+,0", "0,-", "-,0", "i1,0", "0,ii", "--1,0", "0,2i+1", "1.0,0", "0,1e3", "0x1,0", "NaN,0", "0,Inf", "(1,0)", "1，0", "1,0／1", "w,0", "1,w", "１,0", "0,−1",
		// What is no text is told ahead of what is too great.
		"9007199254740992", "9007199254740992,", ",9007199254740992", "9007199254740992, 0", "9007199254740992,0/0", "9007199254740992,0/01", "9007199254740992,0/1000", "0,9007199254740992/", "9007199254740992,01", "01,9007199254740992", "9007199254740992,x", "x,9007199254740992", "9007199254740992,0,0", long, long + "," + long + "/", long + "," + long + "x", "0" + long + ",0", "0,0" + long, long + "," + long + "/1000",
	} {
		if a, e := amp.Parse(s); !same(a, api.Amp{}) || e != api.ErrNumber {
			t.Errorf("Parse(%.60q): %v, %d", s, a, e)
		}
	}
}

// TestRefusedTexts: texts of numbers that are too great; they are told ahead of a power that is, which is told ahead of a K that is.
func TestRefusedTexts(t *testing.T) {
	long := strings.Repeat("9", 100000)
	for s, want := range map[string]api.Errno{
		"9007199254740992,0": api.ErrBig, "0,9007199254740992": api.ErrBig, "-9007199254740992,0": api.ErrBig, "0,-9007199254740992i": api.ErrBig, "1+9007199254740992i,0": api.ErrBig, "0,9007199254740992-i/1": api.ErrBig, "9007199254740992,9007199254740992": api.ErrBig,
		"9007199254740992,0/2": api.ErrBig, "18446744073709551616,0": api.ErrBig, "0,18446744073709551617/60": api.ErrBig, long + ",0": api.ErrBig, "0," + long + "i/9": api.ErrBig, "-" + long + "-" + long + "i,-" + long + "/120": api.ErrBig,
		"9007199254740992,0/121": api.ErrBig, "0,9007199254740992/999": api.ErrBig,
		"1,0/121": api.ErrArg, "1,0/200": api.ErrArg, "1,0/999": api.ErrArg, "0,0/121": api.ErrArg, "0,0/999": api.ErrArg, "4503599627370496,0/121": api.ErrArg,
		"1,0/61": api.ErrBig, "1,0/99": api.ErrBig, "1,0/100": api.ErrBig, "1,0/120": api.ErrBig, "1+i,0/62": api.ErrBig, "0,1/61": api.ErrBig, "536870912,0/120": api.ErrBig,
	} {
		if a, e := amp.Parse(s); !same(a, api.Amp{}) || e != want {
			t.Errorf("Parse(%.60q): %v, %d, not %d", s, a, e, want)
		}
	}
}

// oneNumber: the texts of all Gaussian integers of any size. Its groups are a number without i; or a real part and the sign behind it, or the sign ahead; and the digits ahead of i.
const oneNumber = `(?:(0|-?[1-9][0-9]*)|(?:(-?[1-9][0-9]*)([+-])|(-?))([2-9]|[1-9][0-9]+)?i)`

var amplitude = regexp.MustCompile(`^` + oneNumber + `,` + oneNumber + `(?:/([1-9][0-9]{0,2}))?$`)

func readNumber(g []string) (re, im *exact.Int) {
	re, im = new(exact.Int), new(exact.Int)
	if g[0] != "" {
		re.SetString(g[0], 10)
		return re, im
	}
	if g[1] != "" {
		re.SetString(g[1], 10)
	}
	if g[4] == "" {
		g[4] = "1"
	}
	im.SetString(g[2]+g[3]+g[4], 10)
	return re, im
}

// read is what Parse should tell.
func read(s string) told {
	g := amplitude.FindStringSubmatch(s)
	if g == nil {
		return refused(api.ErrNumber)
	}
	a, b := readNumber(g[1:6])
	c, d := readNumber(g[6:11])
	p := powers{a, c, b, d}
	if !p.fits() {
		return refused(api.ErrBig)
	}
	k, _ := strconv.Atoi("0" + g[11])
	return made(p.element(), k)
}

func holdText(t *testing.T, s string) told {
	t.Helper()
	want := read(s)
	if a, e := amp.Parse(s); !same(a, want.a) || e != want.e {
		t.Fatalf("Parse(%q): %v, %d, not %v, %d", s, a, e, want.a, want.e)
	}
	return want
}

// longer puts each of the signs behind each text.
func longer(l []string, signs string) []string {
	var all []string
	for _, s := range l {
		for _, c := range signs {
			all = append(all, s+string(c))
		}
	}
	return all
}

// TestAllShortTexts: each text of up to five of these signs, and such behind a number and a comma, or behind a stroke.
func TestAllShortTexts(t *testing.T) {
	taken := 0
	for _, begin := range []string{"", "2,", "1,0/", "-i,2+2"} {
		l := []string{begin}
		for range 5 {
			l = longer(l, "012,/i+- ")
			for _, s := range l {
				if holdText(t, s).e == api.OK {
					taken++
				}
			}
		}
	}
	if taken < 1000 {
		t.Errorf("only %d texts were read", taken)
	}
}

// TestAllPowers: each text of up to four digits behind the stroke.
func TestAllPowers(t *testing.T) {
	for _, begin := range []string{"1,0/", "0,0/", "1125899906842624,1125899906842624i/", "9007199254740992,0/"} {
		holdText(t, begin)
		for n := range 10000 {
			for digits := 1; digits <= 4; digits++ {
				holdText(t, fmt.Sprintf("%s%0*d", begin, digits, n))
			}
		}
	}
}

// TestSpoiledTexts: texts of amplitudes with one byte taken away, put in or exchanged.
func TestSpoiledTexts(t *testing.T) {
	s := source(8)
	for range 3000 {
		text := written(s.amp([]int{2, 10, 53}[s.below(3)], power))
		i := s.below(len(text))
		c := string("0129,/i+- x"[s.below(11)])
		holdText(t, text)
		holdText(t, text[:i]+text[i+1:])
		holdText(t, text[:i]+c+text[i:])
		holdText(t, text[:i]+c+text[i+1:])
	}
}
