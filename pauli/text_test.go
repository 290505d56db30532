package pauli_test

import (
	"regexp"
	"strings"
	"testing"

	"cubit/api"
	"cubit/pauli"
)

var signs = [4]string{"+", "+i", "-", "-i"}

// textOf is the text of p, worked out letter by letter from the lowest qubit on.
func textOf(p api.Pauli) string {
	text := ""
	for j := range p.N {
		text = "IXZY"[kindAt(p, j):][:1] + text
	}
	return signs[p.Phase] + text
}

// P7.3: there and back, for strings on each number of qubits with each phase.
func TestThereAndBack(t *testing.T) {
	s := source(8)
	for n := range 65 {
		for phase := range 4 {
			for _, p := range samples(&s, n) {
				p.Phase = phase
				text, e := pauli.Text(p)
				if text != textOf(p) || e != api.OK {
					t.Fatalf("Text(%+v): %q, %d, not %q", p, text, e, textOf(p))
				}
				if got := is(pauli.Parse(text)); got != (answer{p, api.OK}) {
					t.Fatalf("Parse(%q): %+v, not %+v", text, got, p)
				}
			}
		}
	}
}

var form = regexp.MustCompile(`^(\+i|-i|\+|-|i|)([IXYZ]*)$`)

// readByForm is what Parse must tell of s: the form by a regular expression, the letters from the last one on.
func readByForm(s string) answer {
	parts := form.FindStringSubmatch(s)
	if parts == nil {
		return no(api.ErrPauli)
	}
	word := parts[2]
	if len(word) > 64 {
		return no(api.ErrLong)
	}
	p := api.Pauli{N: len(word), Phase: map[string]int{"": 0, "+": 0, "i": 1, "+i": 1, "-": 2, "-i": 3}[parts[1]]}
	for j := range p.N {
		letter := word[len(word)-1-j]
		if letter == 'X' || letter == 'Y' {
			p.X += worth(j)
		}
		if letter == 'Z' || letter == 'Y' {
			p.Z += worth(j)
		}
	}
	return answer{p, api.OK}
}

// All texts of up to six of the letters, the signs and some that are none. Of k letters there are 4^k words: so many texts are taken, and so many have a sign of the four.
func TestAllShortTexts(t *testing.T) {
	taken, signed := 0, 0
	var try func(s string, more int)
	try = func(s string, more int) {
		got := is(pauli.Parse(s))
		if want := readByForm(s); got != want {
			t.Fatalf("Parse(%q): %+v, not %+v", s, got, want)
		}
		if got.e == api.OK {
			taken++
			if strings.HasPrefix(s, "+") || strings.HasPrefix(s, "-") {
				signed++
				if text, e := pauli.Text(got.p); text != s || e != api.OK {
					t.Fatalf("Text(Parse(%q)): %q, %d", s, text, e)
				}
			}
		}
		if more > 0 {
			for _, c := range []byte("IXYZ+-i x") {
				try(s+string(c), more-1)
			}
		}
	}
	try("", 6)
	if taken != 10238 || signed != 3412 {
		t.Errorf("taken %d, with a sign %d of them", taken, signed)
	}
}

// Each byte alone, behind a sign, ahead of a letter and behind one.
func TestEachByte(t *testing.T) {
	for b := range 256 {
		c := string([]byte{byte(b)})
		for _, s := range []string{c, "+" + c, "-i" + c, c + "X", "X" + c, "+X" + c + "Z", "i" + c + "Y"} {
			if got, want := is(pauli.Parse(s)), readByForm(s); got != want {
				t.Errorf("Parse(%q): %+v, not %+v", s, got, want)
			}
		}
	}
}

func TestNoTexts(t *testing.T) {
	for _, s := range []string{
		"x", "y", "z", "Xx", "+z", "ix", "iz", " ", " X", "X ", "+ X", "+i X", "X X", "\tX", "X\n", "\n", "X\x00", "\x00",
		"++", "--", "+-", "-+", "++X", "--X", "+-X", "-+X", "ii", "iiX", "+iiX", "-iiX", "i+", "i-", "i+X", "+i+X", "X+", "X-", "Xi", "X+Y", "XiY", "+Xi",
		"1X", "X1", "I2", "(X)", "X*Y", "X,Y", "+I+", "A", "W", "[", "Ｘ", "Х", "−X", "é", "\xff", "X\xff", "+i\u00a0X",
	} {
		if got := is(pauli.Parse(s)); got != no(api.ErrPauli) {
			t.Errorf("Parse(%q): %+v", s, got)
		}
	}
}

// 64 letters are taken with each sign, 65 and more are too long, and a wrong one among them, wherever it stands, makes it no text at all.
func TestLongTexts(t *testing.T) {
	for _, sign := range []string{"", "+", "-", "i", "+i", "-i"} {
		for _, letter := range []string{"I", "X", "Y", "Z"} {
			for _, n := range []int{63, 64, 65, 66, 67, 68, 128, 129, 1000} {
				s := sign + strings.Repeat(letter, n)
				got, want := is(pauli.Parse(s)), readByForm(s)
				if got != want || (n > 64) != (got == no(api.ErrLong)) {
					t.Errorf("Parse of %q and %d %s: %+v, not %+v", sign, n, letter, got, want)
				}
			}
		}
		for _, n := range []int{64, 65, 66, 200} {
			for at := range n {
				for _, wrong := range []string{"x", " ", "+", "i", "-", "\x00", "\xff"} {
					s := sign + strings.Repeat("Z", at) + wrong + strings.Repeat("Z", n-1-at)
					got, want := is(pauli.Parse(s)), readByForm(s)
					if got != want || at > 0 && got != no(api.ErrPauli) {
						t.Fatalf("Parse(%q): %+v, not %+v", s, got, want)
					}
				}
			}
		}
	}
}

func TestBigTexts(t *testing.T) {
	const n = 1 << 22
	word := strings.Repeat("XYZI", n/4)
	for _, c := range []struct {
		s    string
		want api.Errno
	}{
		{word, api.ErrLong},
		{"-i" + word, api.ErrLong},
		{word + "i", api.ErrPauli},
		{strings.Repeat("i", n), api.ErrPauli},
		{strings.Repeat(" ", n), api.ErrPauli},
		{strings.Repeat("+", n), api.ErrPauli},
	} {
		if got := is(pauli.Parse(c.s)); got != no(c.want) {
			t.Errorf("Parse of %q and so on: %+v, not %d", c.s[:3], got, c.want)
		}
	}
}
