package lex_test

import (
	"slices"
	"strings"
	"testing"
	"unsafe"

	"cubit/api"
	"cubit/lex"
)

const program = "h q[0]; # a remark\nmeasure q[0] c[17];"

// What Scan tells is the caller's own, and new at each call.
func TestTokensAreTheCallers(t *testing.T) {
	first, second := scan(t, program), scan(t, program)
	want := slices.Clone(first)
	spoilt := api.Token{Kind: 9, Text: "spoilt", At: -1}
	all := first[:cap(first)]
	for j := range all {
		all[j] = spoilt
	}
	if !slices.Equal(second, want) || !slices.Equal(scan(t, program), want) {
		t.Error("what two calls tell shares memory")
	}
}

// within: does s stand in the memory of text?
func within(s, text string) bool {
	begin, at := uintptr(unsafe.Pointer(unsafe.StringData(text))), uintptr(unsafe.Pointer(unsafe.StringData(s)))
	return len(s) > 0 && len(text) > 0 && begin <= at && at < begin+uintptr(len(text))
}

// The Texts are no pieces of the text that was handed in: a token keeps no more than itself.
func TestTextsAreNoPieces(t *testing.T) {
	text := strings.Clone(program)
	tokens := scan(t, text)
	for j, token := range tokens {
		if within(token.Text, text) {
			t.Errorf("the Text of %v is a piece of what was handed in", token)
		}
		for k := range j {
			if within(token.Text, tokens[k].Text) {
				t.Errorf("%v and %v share memory", tokens[k], token)
			}
		}
	}
}

// The tokens handed in stay as they are, and so does the room behind them.
func TestTokensHandedInStay(t *testing.T) {
	behind := api.Token{Kind: 9, Text: "behind", At: 99}
	for _, tokens := range [][]api.Token{
		{name("h", 5), name("q", -3), sign("[", 0), number("007", 2)},
		{name("h", 5), name("9", -3), sign("[", 0)},
		slices.Repeat([]api.Token{sign(";", 4)}, 40000),
	} {
		room := append(slices.Clone(tokens), behind, behind, behind)
		given := room[:len(tokens)]
		lex.Join(given)
		lex.Join(given)
		if !slices.Equal(given, tokens) || !slices.Equal(room[len(tokens):], []api.Token{behind, behind, behind}) {
			t.Errorf("Join changed what was handed in: %v", few(room))
		}
	}
}

// What Join answers is no piece of a Text, also where there is one token alone; and it stays, whatever becomes of the tokens.
func TestJoinedIsNew(t *testing.T) {
	for _, tokens := range [][]api.Token{{name("alone", 0)}, {name("one", 0), name("two", 0)}} {
		for j := range tokens {
			tokens[j].Text = strings.Clone(tokens[j].Text)
		}
		joined := join(t, tokens)
		for _, token := range tokens {
			if within(joined, token.Text) {
				t.Errorf("%q is in the memory of %v", joined, token)
			}
		}
		kept := strings.Clone(joined)
		clear(tokens)
		if joined != kept {
			t.Errorf("%q became %q", kept, joined)
		}
	}
}

// Nothing is kept: a text tells the same whatever was read or refused ahead of it.
func TestNothingIsKept(t *testing.T) {
	want := scan(t, program)
	joined := join(t, want)
	for _, text := range []string{"3q", "a#", "-", strings.Repeat(";", 65537), "", program} {
		lex.Scan(text)
		lex.Join([]api.Token{{Text: text}})
		if !slices.Equal(scan(t, program), want) || join(t, want) != joined {
			t.Errorf("behind %.20q the answer is another", text)
		}
	}
}
