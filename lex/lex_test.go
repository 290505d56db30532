package lex_test

import (
	"slices"
	"strings"
	"testing"

	"cubit/api"
	"cubit/lex"
)

// The functions are as the chapter has them.
var (
	_ func(string) ([]api.Token, int, api.Errno) = lex.Scan
	_ func(string) bool                          = lex.IsName
	_ func([]api.Token) (string, api.Errno)      = lex.Join
)

func name(text string, at int) api.Token   { return api.Token{Kind: 1, Text: text, At: at} }
func number(text string, at int) api.Token { return api.Token{Kind: 2, Text: text, At: at} }
func sign(text string, at int) api.Token   { return api.Token{Kind: 3, Text: text, At: at} }

// few is the first tokens, for a message.
func few(tokens []api.Token) []api.Token { return tokens[:min(len(tokens), 12)] }

// scan is the tokens of a text that Scan must take.
func scan(t *testing.T, text string) []api.Token {
	t.Helper()
	tokens, at, e := lex.Scan(text)
	if at != 0 || e != api.OK {
		t.Fatalf("Scan(%.40q): place %d, error %d", text, at, e)
	}
	return tokens
}

// join is the text of tokens that Join must take.
func join(t *testing.T, tokens []api.Token) string {
	t.Helper()
	text, e := lex.Join(tokens)
	if e != api.OK {
		t.Fatalf("Join(%v): error %d", few(tokens), e)
	}
	return text
}

func TestKinds(t *testing.T) {
	if api.TokName != 1 || api.TokNumber != 2 || api.TokSign != 3 || api.ErrLong != 1 || api.ErrLex != 90 || api.MaxSource != 65536 {
		t.Error("the numbers are not the chapter's")
	}
}

// P9.1: Scan, for the chapter's examples and ordinary texts.
func TestScan(t *testing.T) {
	for text, want := range map[string][]api.Token{
		"h q[0];":                    {name("h", 0), name("q", 2), sign("[", 3), number("0", 4), sign("]", 5), sign(";", 6)},
		"a#b\nc":                     {name("a", 0), name("c", 4)},
		"a#b\rc":                     {name("a", 0)},
		"a # b # c\nd":               {name("a", 0), name("d", 10)},
		"#a\n#b\n\nc#d\n":            {name("c", 7)},
		"#":                          nil,
		"##":                         nil,
		"# a { - \xff é \x00":        nil,
		"#\n":                        nil,
		"#\n;":                       {sign(";", 2)},
		"12#34":                      {number("12", 0)},
		"12#34\n56":                  {number("12", 0), number("56", 6)},
		"ab#cd\nef":                  {name("ab", 0), name("ef", 6)},
		";#;\n;":                     {sign(";", 0), sign(";", 4)},
		"007":                        {number("007", 0)},
		"000":                        {number("000", 0)},
		"0 00":                       {number("0", 0), number("00", 2)},
		"_":                          {name("_", 0)},
		"_1 __ a_b9Z":                {name("_1", 0), name("__", 3), name("a_b9Z", 6)},
		"{}[];,":                     {sign("{", 0), sign("}", 1), sign("[", 2), sign("]", 3), sign(";", 4), sign(",", 5)},
		"a{1}b[2]c;3,d":              {name("a", 0), sign("{", 1), number("1", 2), sign("}", 3), name("b", 4), sign("[", 5), number("2", 6), sign("]", 7), name("c", 8), sign(";", 9), number("3", 10), sign(",", 11), name("d", 12)},
		"\ta\nb\rc d ":               {name("a", 1), name("b", 3), name("c", 5), name("d", 7)},
		"1\t2\n3\r4 5":               {number("1", 0), number("2", 2), number("3", 4), number("4", 6), number("5", 8)},
		"99999999999999999999999999": {number("99999999999999999999999999", 0)},
		"gate bell a, b {\n  h a; # first\n  cx a, b;\n}": {
			name("gate", 0), name("bell", 5), name("a", 10), sign(",", 11), name("b", 13), sign("{", 15),
			name("h", 19), name("a", 21), sign(";", 22), name("cx", 34), name("a", 37), sign(",", 38), name("b", 40), sign(";", 41), sign("}", 43)},
	} {
		tokens, at, e := lex.Scan(text)
		if !slices.Equal(tokens, want) || at != 0 || e != api.OK {
			t.Errorf("Scan(%q): %v, %d, %d, not %v", text, tokens, at, e, want)
		}
	}
}

// The empty text, and blanks alone, each of the four.
func TestNoTokens(t *testing.T) {
	for _, text := range []string{"", "\t", "\n", "\r", " ", " \t\r\n", strings.Repeat(" ", 65536), "#" + strings.Repeat("-", 65535)} {
		tokens, at, e := lex.Scan(text)
		if len(tokens) != 0 || at != 0 || e != api.OK {
			t.Errorf("Scan(%.20q): %v, %d, %d", text, tokens, at, e)
		}
	}
}

// A text of MaxSource bytes: of one token, of tokens of one byte, of one byte behind blanks.
func TestLongestText(t *testing.T) {
	for _, kind := range []struct {
		letter string
		make   func(string, int) api.Token
	}{{"a", name}, {"_", name}, {"7", number}, {"0", number}} {
		text := strings.Repeat(kind.letter, 65536)
		if got := scan(t, text); len(got) != 1 || got[0] != kind.make(text, 0) {
			t.Errorf("of so many %s: %d tokens", kind.letter, len(got))
		}
		text = strings.Repeat(" ", 65535) + kind.letter
		if got := scan(t, text); len(got) != 1 || got[0] != kind.make(kind.letter, 65535) {
			t.Errorf("of %s behind blanks: %v", kind.letter, got)
		}
	}
	for j, s := range scan(t, strings.Repeat("{}[];,;,", 8192)) {
		if s != sign("{}[];,;,"[j%8:][:1], j) {
			t.Fatalf("sign %d: %v", j, s)
		}
	}
	if got := scan(t, strings.Repeat("{}[];,;,", 8192)); len(got) != 65536 {
		t.Errorf("%d signs", len(got))
	}
}

// P9.1: IsName.
func TestIsName(t *testing.T) {
	for s, want := range map[string]bool{
		"a": true, "z": true, "A": true, "Z": true, "_": true, "__": true, "_9": true, "a9": true, "h": true, "A_Z": true, "qubits": true, "_a": true, "z0Z_": true,
		strings.Repeat("a", 65537): true, // no limit is named
		"":                         false, "9": false, "9a": false, "0_": false, "a-": false, "-a": false, "é": false, "aé": false, "a b": false, " a": false, "a ": false, "a\n": false, "\na": false, "a\x00": false, "\xff": false, "#": false, "a#b": false, ";": false, "a;": false, "[": false,
		strings.Repeat("a", 65536) + "-": false,
	} {
		if lex.IsName(s) != want {
			t.Errorf("IsName(%.20q) is not %t", s, want)
		}
	}
}

// P9.1: Join.
func TestJoin(t *testing.T) {
	for _, c := range []struct {
		tokens []api.Token
		want   string
	}{
		{nil, ""},
		{[]api.Token{}, ""},
		{[]api.Token{name("h", 0)}, "h"},
		{[]api.Token{name("h", 0), name("q", 0), sign("[", 0)}, "h q ["},
		{[]api.Token{number("007", 9)}, "007"},
		{[]api.Token{sign("{", 0), sign("}", 0), sign("[", 0), sign("]", 0), sign(";", 0), sign(",", 0)}, "{ } [ ] ; ,"},
		{[]api.Token{number("1", 0), name("a", 0), name("_b", 0), number("2", 0), number("3", 0)}, "1 a _b 2 3"},
		{[]api.Token{name("late", 1<<31-1), name("early", -1<<31), name("same", 7), name("same", 7)}, "late early same same"}, // At isn't looked at
	} {
		text, e := lex.Join(c.tokens)
		if text != c.want || e != api.OK {
			t.Errorf("Join(%v): %q, %d, not %q", c.tokens, text, e, c.want)
		}
	}
}

// A joined text of MaxSource bytes, in few tokens and in many.
func TestLongestJoin(t *testing.T) {
	most := strings.Repeat("a", 65536)
	for _, tokens := range [][]api.Token{
		{name(most, 0)},
		{number(strings.Repeat("0", 65536), 0)},
		{name(most[:65534], 0), sign(";", 0)},
		{sign(";", 0), name(most[:65534], 0)},
		{name(most[:30000], 0), number("5", 0), name(most[:35533], 0)},
		append(slices.Repeat([]api.Token{sign(",", 3)}, 32767), name("ab", 0)),
	} {
		if text := join(t, tokens); len(text) != 65536 {
			t.Errorf("%d bytes of %d tokens", len(text), len(tokens))
		}
	}
	if text := join(t, slices.Repeat([]api.Token{sign(",", 3)}, 32768)); text != strings.Repeat(", ", 32767)+"," {
		t.Errorf("%d bytes of 32768 signs", len(text))
	}
}
