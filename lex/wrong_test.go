package lex_test

import (
	"slices"
	"strings"
	"testing"

	"cubit/api"
	"cubit/lex"
)

// A byte at fault, and the place of the first one.
func TestTextsAtFault(t *testing.T) {
	for text, place := range map[string]int{
		"3q": 1, "3_": 1, "3A": 1, "3Z": 1, "3z": 1, "007x": 3, "a 12_": 4, "0x1F": 1, "1e9": 1, "a 1 2b": 5, "q[0a]": 3, "12_34": 2, "#\n1a": 3,
		"a-b": 1, "-": 0, "a -": 2, " -": 1, "é": 0, "aé": 1, "a é": 2, "1é": 1, "\x00": 0, "a\x00": 1, "\x7f": 0, "\x80": 0, "\xff": 0, "a\xffb": 1,
		"q(0)": 1, "\"a\"": 0, "a.b": 1, "a:b": 1, "a=1": 1, "a/b": 1, "//": 0, "a\vb": 1, "a\fb": 1, "a\u00a0b": 1, "a\u2028b": 1, "\ufeffa": 0,
		"a#b\n-": 4, "#-\n-": 3, "# é\né": 5, "- 3q": 0, "3q -": 1, "a - é 3q": 2, "\n\n\n+": 3, "ａ": 0, "٣": 0,
	} {
		if tokens, at, e := lex.Scan(text); len(tokens) != 0 || at != place || e != api.ErrLex {
			t.Errorf("Scan(%q): %v, %d, %d, not place %d", text, tokens, at, e, place)
		}
	}
}

// The fault may be the text's last byte, behind very many tokens; none of them is told.
func TestFaultAtTheEnd(t *testing.T) {
	for text, place := range map[string]int{
		strings.Repeat(";", 65535) + "-":         65535,
		strings.Repeat("7", 65535) + "a":         65535,
		strings.Repeat(" ", 65535) + "\x80":      65535,
		strings.Repeat("a", 65535) + "\xc3":      65535,
		"#" + strings.Repeat("-", 65533) + "\n!": 65535,
	} {
		if tokens, at, e := lex.Scan(text); len(tokens) != 0 || at != place || e != api.ErrLex {
			t.Errorf("Scan(%.20q): %d tokens, %d, %d, not place %d", text, len(tokens), at, e, place)
		}
	}
}

// One byte more than MaxSource is told ahead of all faults, with the place 0.
func TestTextTooLong(t *testing.T) {
	for _, text := range []string{
		strings.Repeat(";", 65537), strings.Repeat("a", 65537), strings.Repeat("7", 65537), strings.Repeat(" ", 65537), "#" + strings.Repeat("x", 65536),
		strings.Repeat("-", 65537), "-" + strings.Repeat(";", 65536), "a-" + strings.Repeat(" ", 65535), "3q" + strings.Repeat(" ", 65535), strings.Repeat("\xff", 200000),
	} {
		if tokens, at, e := lex.Scan(text); len(tokens) != 0 || at != 0 || e != api.ErrLong {
			t.Errorf("Scan(%.20q): %d tokens, %d, %d", text, len(tokens), at, e)
		}
	}
}

// wrongTokens: of no kind, or with a Text that is not as the Kind says.
var wrongTokens = []api.Token{
	{}, {Kind: 0, Text: "a"}, {Kind: 0, Text: "7"}, {Kind: 0, Text: ";"}, {Kind: 4, Text: "a"}, {Kind: 4, Text: ";"}, {Kind: -1, Text: "a"}, {Kind: -3, Text: ";"}, {Kind: 1<<31 - 1, Text: "a"}, {Kind: -1 << 31, Text: "7"}, {Kind: 257, Text: "a"},
	name("", 0), name("9", 0), name("9a", 0), name("a b", 0), name(" a", 0), name("a ", 0), name("a-", 0), name("é", 0), name(";", 0), name("a;", 0), name("a#b", 0), name("\x00", 0), name("a\n", 0),
	number("", 0), number("a", 0), number("1a", 0), number("a1", 0), number("1_", 0), number("_1", 0), number("-1", 0), number("+1", 0), number("1 2", 0), number(" 1", 0), number("1 ", 0), number("1.0", 0), number("٣", 0), number(";", 0), number("1;", 0),
	sign("", 0), sign("a", 0), sign("7", 0), sign("[[", 0), sign("[]", 0), sign(" ", 0), sign("; ", 0), sign(" ;", 0), sign("(", 0), sign("#", 0), sign("-", 0), sign(":", 0), sign("é", 0), sign("\x00", 0), sign("\xff", 0), sign("\n", 0), sign("a;", 0), sign(";a", 0),
}

// A wrong token is refused alone, and wherever it stands among right ones.
func TestWrongTokens(t *testing.T) {
	right := []api.Token{name("a", 0), number("7", 0), sign(";", 0)}
	for _, wrong := range wrongTokens {
		if text, e := lex.Join([]api.Token{wrong}); text != "" || e != api.ErrLex {
			t.Errorf("Join of %v: %q, %d", wrong, text, e)
		}
		for j := range len(right) + 1 {
			if text, e := lex.Join(slices.Insert(slices.Clone(right), j, wrong)); text != "" || e != api.ErrLex {
				t.Errorf("Join with %v at %d: %q, %d", wrong, j, text, e)
			}
		}
	}
}

// A Text is one of its own Kind alone.
func TestTextsOfOneKind(t *testing.T) {
	for _, token := range []api.Token{name("a", 0), name("_", 0), number("0", 0), number("10", 0), sign("{", 0), sign(",", 0)} {
		for kind := -1; kind <= 5; kind++ {
			text, e := lex.Join([]api.Token{{Kind: kind, Text: token.Text}})
			if kind == token.Kind && (text != token.Text || e != api.OK) || kind != token.Kind && (text != "" || e != api.ErrLex) {
				t.Errorf("Join of %q as kind %d: %q, %d", token.Text, kind, text, e)
			}
		}
	}
}

// tooLong: right tokens that would come to 65537 bytes or more.
func tooLong() [][]api.Token {
	most := strings.Repeat("a", 65537)
	return [][]api.Token{
		{name(most, 0)},
		{number(strings.Repeat("1", 65537), 0)},
		{name(most[:65536], 0), sign(";", 0)},
		{sign(";", 0), name(most[:65536], 0)},
		{name(most[:65535], 0), sign(";", 0)}, // the space is one of them
		{sign(";", 0), name(most[:65535], 0)},
		{name(most[:30000], 0), number("5", 0), name(most[:35534], 0)},
		slices.Repeat([]api.Token{sign(",", 0)}, 32769),
		slices.Repeat([]api.Token{sign(",", 0)}, 70000),
		slices.Repeat([]api.Token{name(most, 0)}, 3),
	}
}

func TestJoinTooLong(t *testing.T) {
	for j, tokens := range tooLong() {
		if text, e := lex.Join(tokens); text != "" || e != api.ErrLong {
			t.Errorf("case %d: %d bytes, %d", j, len(text), e)
		}
	}
}

// A wrong token is told ahead of the length, also where it stands behind all that is too long.
func TestWrongTokenAheadOfLength(t *testing.T) {
	for j, tokens := range tooLong() {
		for _, wrong := range []api.Token{{}, name("", 0), number("1a", 0), sign("(", 0), name(strings.Repeat("a", 65537)+"-", 0), {Kind: 4, Text: strings.Repeat("a", 65537)}} {
			for _, all := range [][]api.Token{append(slices.Clone(tokens), wrong), append([]api.Token{wrong}, tokens...)} {
				if text, e := lex.Join(all); text != "" || e != api.ErrLex {
					t.Errorf("case %d with %.20q: %d bytes, %d", j, wrong.Text, len(text), e)
				}
			}
		}
	}
}
