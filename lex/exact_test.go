package lex_test

import (
	"regexp"
	"slices"
	"testing"

	"cubit/api"
	"cubit/lex"
)

// The chapter's words as regular expressions, each for the front of a text.
var (
	passedOver = regexp.MustCompile(`^(?:[\t\n\r ]|#[^\n]*)+`)
	aName      = regexp.MustCompile(`^[A-Za-z_][A-Za-z0-9_]*`)
	aNumber    = regexp.MustCompile(`^[0-9]+`)
	aSign      = regexp.MustCompile(`^[{}\[\];,]`)
	aLetter    = regexp.MustCompile(`^[A-Za-z_]`)
)

// told is what Scan must tell of a text, read by these.
func told(text string) ([]api.Token, int, api.Errno) {
	var tokens []api.Token
	at := 0
	for {
		at += len(passedOver.FindString(text[at:]))
		if at == len(text) {
			return tokens, 0, api.OK
		}
		found := false
		for kind, form := range []*regexp.Regexp{1: aName, 2: aNumber, 3: aSign} {
			if form == nil || !form.MatchString(text[at:]) {
				continue
			}
			word := form.FindString(text[at:])
			tokens = append(tokens, api.Token{Kind: kind, Text: word, At: at})
			at += len(word)
			if kind == 2 && aLetter.MatchString(text[at:]) {
				return nil, at, api.ErrLex
			}
			found = true
			break
		}
		if !found {
			return nil, at, api.ErrLex
		}
	}
}

// check holds Scan and IsName against that, and tells whether Scan took the text.
func check(t *testing.T, text string) bool {
	t.Helper()
	tokens, at, e := lex.Scan(text)
	wantTokens, wantAt, want := told(text)
	if !slices.Equal(tokens, wantTokens) || at != wantAt || e != want {
		t.Fatalf("Scan(%q): %v, %d, %d, not %v, %d, %d", text, tokens, at, e, wantTokens, wantAt, want)
	}
	if is := lex.IsName(text); is != (len(text) > 0 && aName.FindString(text) == text) {
		t.Fatalf("IsName(%q): %t", text, is)
	}
	return e == api.OK
}

// Each byte alone, and right behind and ahead of a letter, a digit, a sign, a blank, a remark's beginning and its end.
func TestEachByte(t *testing.T) {
	taken := 0
	for c := range 256 {
		b := string([]byte{byte(c)})
		if check(t, b) {
			taken++
		}
		for _, other := range []string{"a", "_", "7", ";", " ", "\n", "#", "#\n", "-"} {
			check(t, b+other)
			check(t, other+b)
			check(t, other+b+other)
		}
	}
	// 52 letters and _, 10 digits, 6 signs, 4 blanks, #.
	if taken != 74 {
		t.Errorf("%d bytes are texts, not 74", taken)
	}
}

// All pairs of bytes.
func TestAllPairs(t *testing.T) {
	for c := range 256 {
		for d := range 256 {
			check(t, string([]byte{byte(c), byte(d)}))
		}
	}
}

// All texts of up to five bytes out of some of each sort and two that are none.
func TestAllShortTexts(t *testing.T) {
	taken, refused := 0, 0
	var try func(s string, more int)
	try = func(s string, more int) {
		if check(t, s) {
			taken++
		} else {
			refused++
		}
		if more == 0 {
			return
		}
		for _, c := range []byte("aZ_0;\n #-\xc3") {
			try(s+string([]byte{c}), more-1)
		}
	}
	try("", 5)
	if taken < 10000 || refused < 10000 || taken+refused != 111111 {
		t.Errorf("%d taken, %d refused", taken, refused)
	}
}

// source is a row of numbers, the same at each run of the tests.
type source uint64

func (s *source) next(below int) int {
	*s = *s*6364136223846793005 + 1442695040888963407
	return int(uint64(*s) >> 33 % uint64(below))
}

// pieces of which longer texts are made.
var pieces = []string{"a", "Qubits", "_x9", "h", "0", "7", "0012", "{", "}", "[", "]", ";", ",", " ", " ", "\t", "\n", "\r", "\r\n", " ", "# a remark { é \x00 -\n", "#\n", "##;\n"}

// someText is a text of so many pieces; now and then a byte of any kind is among them.
func someText(s *source, count int) string {
	text := ""
	for range count {
		text += pieces[s.next(len(pieces))]
		if s.next(60) == 0 {
			text += string([]byte{byte(s.next(256))})
		}
	}
	return text
}

func TestLongerTexts(t *testing.T) {
	s := source(9)
	taken := 0
	for j := range 4000 {
		if check(t, someText(&s, j%40)) {
			taken++
		}
	}
	if taken < 500 || taken > 3500 {
		t.Errorf("%d of 4000 texts are taken", taken)
	}
}

// Join of all tokens with a short Text, right and wrong, of each Kind.
func TestJoinOfShortTexts(t *testing.T) {
	forms := []*regexp.Regexp{1: aName, 2: aNumber, 3: aSign}
	taken := 0
	for c := range 256 {
		for d := -1; d < 256; d++ {
			text := string([]byte{byte(c)})
			if d >= 0 {
				text += string([]byte{byte(d)})
			}
			for kind := 1; kind <= 3; kind++ {
				right := forms[kind].FindString(text) == text
				got, e := lex.Join([]api.Token{{Kind: kind, Text: text, At: c}})
				if right && (got != text || e != api.OK) || !right && (got != "" || e != api.ErrLex) {
					t.Fatalf("Join of %q as kind %d: %q, %d", text, kind, got, e)
				}
				if right {
					taken++
				}
			}
		}
	}
	// 53 and 53 times 63 names, 10 and 100 numbers, 6 signs.
	if taken != 53+53*63+10+100+6 {
		t.Errorf("%d are taken", taken)
	}
}
