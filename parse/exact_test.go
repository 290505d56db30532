package parse_test

import (
	"math/big"
	"regexp"
	"slices"
	"sort"
	"strconv"
	"strings"
	"testing"

	"cubit/api"
	"cubit/lex"
	"cubit/parse"
)

// aProgram is the chapter's table as a regular expression, for bodies nested not too deep. Each token is a letter: a sign itself, 0 a number, N a plain name, and a word of its own its first letter, but z for reset.
var aProgram = func() *regexp.Regexp {
	argument := `N(?:\[0\])?`
	simple := `[qb]N0;|m` + argument + argument + `;|z` + argument + `;|N(?:` + argument + `)*;`
	statement := simple
	for range 8 {
		statement = simple + `|(?:gNN*|r0|iN0)\{(?:` + statement + `)*\}`
	}
	return regexp.MustCompile(`^(?:` + statement + `)*$`)
}()

// letter is the letter of a token.
func letter(t api.Token) string {
	switch {
	case t.Kind == api.TokSign:
		return t.Text
	case t.Kind == api.TokNumber:
		return "0"
	case t.Text == "reset":
		return "z"
	case slices.Contains(ownWords, t.Text):
		return t.Text[:1]
	}
	return "N"
}

// goesOn: is there a program that begins with these tokens? To finish a statement takes one of a few rows of tokens; then the bodies are closed.
func goesOn(letters string) bool {
	for _, more := range []string{"", ";", "N;", "NN;", "0;", "N0;", "];", "]N;", "0];", "0]N;", "{", "N{", "0{", "N0{"} {
		whole := letters + more
		open := strings.Count(whole, "{") - strings.Count(whole, "}")
		if open >= 0 && aProgram.MatchString(whole+strings.Repeat("}", open)) {
			return true
		}
	}
	return false
}

// tooGreat: is the number above MaxPart?
func tooGreat(digits string) bool {
	n, _ := new(big.Int).SetString(digits, 10)
	limit, _ := new(big.Int).SetString(most, 10)
	return n.Cmp(limit) > 0
}

// rowsOf is the rows of tokens that are a program: a statement begins at the first token and at each one behind ; { and }, but at no }.
func rowsOf(tokens []api.Token) []api.Row {
	var rows []api.Row
	var open []int // the rows whose bodies are open
	begin := 0
	for j, token := range tokens {
		switch token.Text {
		case ";", "{":
			rows = append(rows, rowOf(tokens[begin:j]))
			for _, k := range open {
				rows[k].Rows++
			}
			if token.Text == "{" {
				open = append(open, len(rows)-1)
			}
			begin = j + 1
		case "}":
			open = open[:len(open)-1]
			begin = j + 1
		}
	}
	return rows
}

// rowOf is the row of a statement's tokens, without its ; or its body.
func rowOf(tokens []api.Token) api.Row {
	row := api.Row{Kind: tokens[0].Text, Place: tokens[0].At}
	if letter(tokens[0]) == "N" {
		row.Kind = "use"
	} else {
		tokens = tokens[1:]
	}
	if strings.Contains(" qubits bits gate if use ", " "+row.Kind+" ") {
		row.Name, tokens = tokens[0].Text, tokens[1:]
	}
	for j, token := range tokens {
		if token.Kind == api.TokName {
			row.Args = append(row.Args, arg(token.Text))
		}
		if token.Kind == api.TokNumber {
			n, _ := strconv.Atoi(token.Text)
			if j > 0 && tokens[j-1].Text == "[" {
				row.Args[len(row.Args)-1].Index = n
			} else {
				row.Num = n
			}
		}
	}
	return row
}

// told is what Parse must tell of a text, by these.
func told(text string) ([]api.Row, int, api.Errno) {
	tokens, place, e := lex.Scan(text)
	if e != api.OK {
		return nil, place, e
	}
	letters := ""
	for _, token := range tokens {
		letters += letter(token)
	}
	// A program that begins with tokens begins with the first of them, too.
	fit := sort.Search(len(letters), func(j int) bool { return !goesOn(letters[:j+1]) })
	depth := 0
	for _, token := range tokens[:fit] {
		if token.Kind == api.TokNumber && tooGreat(token.Text) {
			return nil, token.At, api.ErrLong
		}
		depth += strings.Count(token.Text, "{") - strings.Count(token.Text, "}")
		if depth > api.MaxDepth {
			return nil, token.At, api.ErrDeep
		}
	}
	if fit < len(tokens) {
		return nil, tokens[fit].At, api.ErrSyntax
	}
	if !aProgram.MatchString(letters) {
		return nil, len(text), api.ErrEnd
	}
	return rowsOf(tokens), 0, api.OK
}

// check holds Parse against that, and tells its error.
func check(t *testing.T, text string) api.Errno {
	t.Helper()
	rows, place, e := parse.Parse(text)
	wantRows, wantPlace, want := told(text)
	if !same(rows, wantRows) || place != wantPlace || e != want {
		t.Fatalf("Parse(%q): %v, %d, %d, not %v, %d, %d", text, rows, place, e, wantRows, wantPlace, want)
	}
	return e
}

// All lists of tokens of up to ten that a program begins with, and each token behind each of them.
func TestAllShortPrograms(t *testing.T) {
	found := map[api.Errno]int{}
	var try func(text string, more int)
	try = func(text string, more int) {
		e := check(t, text)
		found[e]++
		if more == 0 || e != api.OK && e != api.ErrEnd {
			return
		}
		for _, word := range append([]string{"h", "7", above, "{", "}", "[", "]", ";", ","}, ownWords...) {
			try(text+" "+word, more-1)
		}
	}
	try("", 10)
	if found[api.OK] < 500 || found[api.ErrEnd] < 1000 || found[api.ErrSyntax] < 10000 || found[api.ErrLong] < 500 {
		t.Errorf("found %v", found)
	}
}

// source is a row of numbers, the same at each run of the tests.
type source uint64

func (s *source) next(below int) int {
	*s = *s*6364136223846793005 + 1442695040888963407
	return int(uint64(*s) >> 33 % uint64(below))
}

func (s *source) one(of ...string) string { return of[s.next(len(of))] }

func (s *source) plain() string {
	return s.one("q", "c", "h", "_", "use", "cx", "Gate", "q_1", "reset2")
}

func (s *source) number() string { return s.one("0", "1", "2", "007", "000", "41", most, "0"+most) }

func (s *source) argument() []string {
	if s.next(2) == 0 {
		return []string{s.plain()}
	}
	return []string{s.plain(), "[", s.number(), "]"}
}

// statement is the tokens of some statement, with so many bodies in one another at most.
func (s *source) statement(bodies int) []string {
	kind := s.next(8)
	if bodies == 0 && kind < 3 {
		kind = 7
	}
	switch kind {
	case 0:
		list := []string{"gate", s.plain()}
		for range s.next(4) {
			list = append(list, s.plain())
		}
		return append(list, s.body(bodies)...)
	case 1:
		return append([]string{"repeat", s.number()}, s.body(bodies)...)
	case 2:
		return append([]string{"if", s.plain(), s.number()}, s.body(bodies)...)
	case 3:
		return []string{"qubits", s.plain(), s.number(), ";"}
	case 4:
		return []string{"bits", s.plain(), s.number(), ";"}
	case 5:
		return append(append(append([]string{"measure"}, s.argument()...), s.argument()...), ";")
	case 6:
		return append(append([]string{"reset"}, s.argument()...), ";")
	}
	list := []string{s.plain()}
	for range s.next(4) {
		list = append(list, s.argument()...)
	}
	return append(list, ";")
}

func (s *source) body(bodies int) []string {
	return append(append([]string{"{"}, s.statements(s.next(4), bodies-1)...), "}")
}

func (s *source) statements(count, bodies int) []string {
	var list []string
	for range count {
		list = append(list, s.statement(bodies)...)
	}
	return list
}

// text is tokens with blanks and remarks between them, and none where none need be.
func (s *source) text(tokens []string) string {
	text, last := s.one("", "", " ", "#\n"), ";"
	for _, token := range tokens {
		gap := s.one("", "", " ", " ", "\n", "\t \r\n", "# a remark ; } é\n", "  ")
		if gap == "" && !strings.Contains("{}[];,", last) && !strings.Contains("{}[];,", token) {
			gap = " "
		}
		text, last = text+gap+token, token
	}
	return text + s.one("", "", " ", "\n", "#", "# } {")
}

// somePrograms are texts of programs.
func somePrograms(seed source, count int) []string {
	var texts []string
	for j := range count {
		texts = append(texts, seed.text(seed.statements(j%7, j%5)))
	}
	return texts
}

func TestSomePrograms(t *testing.T) {
	rows := 0
	for _, text := range somePrograms(1, 1500) {
		if e := check(t, text); e != api.OK {
			t.Fatalf("Parse(%q): %d", text, e)
		}
		rows += len(read(t, text))
	}
	if rows < 5000 {
		t.Errorf("%d rows alone", rows)
	}
}

// spoil changes a list of tokens at a place or two.
func (s *source) spoil(tokens []string) []string {
	tokens = slices.Clone(tokens)
	for range 1 + s.next(2) {
		if len(tokens) == 0 {
			return tokens
		}
		j := s.next(len(tokens))
		word := s.one(append([]string{"{", "}", "[", "]", ";", ",", "q", "h", "3", above, above, above, "00" + above}, ownWords...)...)
		switch s.next(5) {
		case 0:
			tokens = slices.Delete(tokens, j, j+1)
		case 1:
			tokens = slices.Insert(tokens, j, word)
		case 2:
			tokens[j] = word
		case 3:
			tokens = tokens[:j]
		case 4:
			k := s.next(len(tokens))
			tokens[j], tokens[k] = tokens[k], tokens[j]
		}
	}
	return tokens
}

// Programs with some tokens taken away, put in, exchanged: the first fault and its place.
func TestSpoiltPrograms(t *testing.T) {
	s := source(2)
	found := map[api.Errno]int{}
	for j := range 10000 {
		found[check(t, s.text(s.spoil(s.statements(1+j%4, j%4))))]++
	}
	for _, e := range []api.Errno{api.OK, api.ErrSyntax, api.ErrEnd, api.ErrLong} {
		if found[e] < 50 {
			t.Errorf("found %v", found)
		}
	}
}

// Programs cut off at any byte, and with a byte of any kind put in.
func TestSpoiltTexts(t *testing.T) {
	s := source(3)
	found := map[api.Errno]int{}
	for j := range 1500 {
		text := s.text(s.statements(1+j%4, j%4))
		k := s.next(len(text) + 1)
		found[check(t, text[:k])]++
		found[check(t, text[:k]+string([]byte{byte(s.next(256))})+text[k:])]++
	}
	for _, e := range []api.Errno{api.OK, api.ErrSyntax, api.ErrEnd, api.ErrLex} {
		if found[e] < 50 {
			t.Errorf("found %v", found)
		}
	}
}
