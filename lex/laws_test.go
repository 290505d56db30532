package lex_test

import (
	"slices"
	"strings"
	"testing"

	"cubit/api"
	"cubit/lex"
)

// someTexts are texts that Scan takes.
func someTexts(seed source, count int) []string {
	var texts []string
	for j := 0; len(texts) < count; j++ {
		text := someText(&seed, j%50)
		if _, _, e := lex.Scan(text); e == api.OK {
			texts = append(texts, text)
		}
	}
	return texts
}

// between: blanks and remarks alone. A remark ends at a line end, or, where nothing follows, at the end.
func between(s string, last bool) bool {
	for s != "" {
		switch s[0] {
		case 9, 10, 13, 32:
			s = s[1:]
		case '#':
			_, rest, found := strings.Cut(s, "\n")
			if !found && !last {
				return false
			}
			s = rest
		default:
			return false
		}
	}
	return true
}

// P9.2: where the tokens stand.
func TestWhereTheyStand(t *testing.T) {
	tokens := 0
	for _, text := range append(someTexts(1, 1500), "", "#", "a#", "#\na", " a ", "a;a#a\na") {
		end := 0
		for _, token := range scan(t, text) {
			if token.At < end || token.At+len(token.Text) > len(text) || text[token.At:][:len(token.Text)] != token.Text || token.Text == "" {
				t.Fatalf("%q: %v, behind %d", text, token, end)
			}
			if !between(text[end:token.At], false) {
				t.Fatalf("%q: between %d and %v stands more", text, end, token)
			}
			end = token.At + len(token.Text)
			tokens++
		}
		if !between(text[end:], true) {
			t.Fatalf("%q: more stands behind %d", text, end)
		}
	}
	if tokens < 5000 {
		t.Errorf("%d tokens alone", tokens)
	}
}

// bare is tokens without their places.
func bare(tokens []api.Token) []api.Token {
	tokens = slices.Clone(tokens)
	for j := range tokens {
		tokens[j].At = 0
	}
	return tokens
}

// P9.3: Join of what Scan tells is taken, and Scan of that tells the same Kinds and Texts, at the places that one space between each two makes.
func TestThereAndBack(t *testing.T) {
	for _, text := range append(someTexts(2, 1500), "", "#", "1", "a;b", strings.Repeat("ab;", 13107)) {
		tokens := scan(t, text)
		joined := join(t, tokens)
		again := scan(t, joined)
		if !slices.Equal(bare(again), bare(tokens)) {
			t.Fatalf("%.40q: %v, not %v", text, few(again), few(tokens))
		}
		at := 0
		for _, token := range again {
			if token.At != at {
				t.Fatalf("%.40q: %v is not at %d", text, token, at)
			}
			at += len(token.Text) + 1
		}
		if len(tokens) > 0 && len(joined) != at-1 {
			t.Fatalf("%.40q: %d bytes, not %d", text, len(joined), at-1)
		}
	}
}

// P9.3: tokens that no text was read for come back too, whatever stands beside what.
func TestTokensThereAndBack(t *testing.T) {
	s := source(3)
	words := []api.Token{name("a", 0), name("_", 0), name("Z9_", 0), number("0", 0), number("007", 0), sign("{", 0), sign("}", 0), sign("[", 0), sign("]", 0), sign(";", 0), sign(",", 0)}
	for _, first := range words {
		for _, second := range words {
			pair := []api.Token{first, second}
			if again := bare(scan(t, join(t, pair))); !slices.Equal(again, pair) {
				t.Errorf("%v: %v", pair, again)
			}
		}
	}
	for count := range 300 {
		var tokens []api.Token
		for range count {
			tokens = append(tokens, words[s.next(len(words))])
		}
		if again := bare(scan(t, join(t, tokens))); !slices.Equal(again, tokens) {
			t.Errorf("%v: %v", tokens, again)
		}
	}
}

// P9.3: what Scan tells is refused by Join for very many short tokens alone, and then for the length.
func TestVeryManyShortTokens(t *testing.T) {
	for _, c := range []struct {
		count int
		e     api.Errno
	}{{32767, api.OK}, {32768, api.OK}, {32769, api.ErrLong}, {65536, api.ErrLong}} {
		text, e := lex.Join(scan(t, strings.Repeat(";", c.count)))
		if e != c.e || e == api.OK && len(text) != 2*c.count-1 || e != api.OK && text != "" {
			t.Errorf("%d signs: %d bytes, %d", c.count, len(text), e)
		}
	}
	joined := join(t, scan(t, strings.Repeat("ab;", 13107))) // 5 bytes for each 3
	if len(joined) != 65534 {
		t.Errorf("%d bytes", len(joined))
	}
}

// moved is tokens of which those from number j on stand so much further behind.
func moved(tokens []api.Token, j, more int) []api.Token {
	tokens = slices.Clone(tokens)
	for k := j; k < len(tokens); k++ {
		tokens[k].At += more
	}
	return tokens
}

// P9.4: blanks more, or a remark and a line end, where a token begins.
func TestMoreBlanksAndRemarks(t *testing.T) {
	mores := []string{" ", "\t", "\n", "\r", " \t\r\n ", "#\n", "# more ; é \x00 1a -\n", "#a\n#b\n", " # x\r\n\t", "##\n\n"}
	tried := 0
	for _, text := range append(someTexts(4, 300), "a", "7;", "{a}[7],_;") {
		tokens := scan(t, text)
		for j, token := range tokens {
			for _, more := range mores {
				longer := text[:token.At] + more + text[token.At:]
				if got := scan(t, longer); !slices.Equal(got, moved(tokens, j, len(more))) {
					t.Fatalf("%q, and %q at %d: %v", text, more, token.At, got)
				}
				tried++
			}
		}
	}
	if tried < 10000 {
		t.Errorf("%d texts alone", tried)
	}
}
