package parse_test

import (
	"slices"
	"strings"
	"testing"

	"cubit/api"
	"cubit/lex"
	"cubit/parse"
)

// texts are programs for the laws: many that are made, and some edges.
func texts(seed source) []string {
	return append(somePrograms(seed, 1000),
		"", " ", "#", "h;", " h ; # end", "# first\nh;\n", deep(32, "h;"), deep(32, ""), "gate use use { use use; } use use;",
		strings.Join(oneOfEach, ""), "repeat 1 {"+strings.Join(oneOfEach, "\n")+"}", strings.Repeat("h q[0]; ", 8000), strings.Repeat("repeat 1{h;}", 2000))
}

// P10.2: rows, shown and parsed, are these rows, but for their Places.
func TestRowsThereAndBack(t *testing.T) {
	for _, text := range texts(11) {
		rows := read(t, text)
		if again := read(t, show(t, rows)); !same(bare(again), bare(rows)) {
			t.Fatalf("%.80q: %v, not %v", text, few(again), few(rows))
		}
	}
	for _, row := range each() {
		for n := range 32 {
			rows := nest(n, row, use("h"), row)
			if again := read(t, show(t, rows)); !same(bare(again), rows) {
				t.Fatalf("%v in %d: %v", row, n, again)
			}
		}
	}
}

// P10.2: a shown text, parsed and shown again, is the same text.
func TestTextsThereAndBack(t *testing.T) {
	for _, text := range texts(12) {
		once := show(t, read(t, text))
		if again := show(t, read(t, once)); again != once {
			t.Fatalf("%.80q: %.200q, not %.200q", text, again, once)
		}
	}
}

// A text that Parse takes may be too long as Show's: then it is refused for that alone.
func TestShownTextIsLonger(t *testing.T) {
	rows := read(t, strings.Repeat("h;", 32768))
	if text, e := parse.Show(rows); text != "" || e != api.ErrLong {
		t.Errorf("%d bytes, %d", len(text), e)
	}
}

// firstToken is the token with which a row begins.
func firstToken(row api.Row) string {
	if row.Kind == "use" {
		return row.Name
	}
	return row.Kind
}

// P10.3: the Places rise strictly, and the row's first token stands at each.
func TestPlaces(t *testing.T) {
	count := 0
	for _, text := range texts(13) {
		tokens, _, _ := lex.Scan(text)
		last := -1
		for _, row := range read(t, text) {
			found := slices.IndexFunc(tokens, func(t api.Token) bool { return t.At == row.Place })
			if row.Place <= last || found < 0 || tokens[found].Text != firstToken(row) || !strings.HasPrefix(text[row.Place:], firstToken(row)) {
				t.Fatalf("%.80q: %v behind %d", text, row, last)
			}
			last = row.Place
			tokens = tokens[found:]
			count++
		}
	}
	if count < 10000 {
		t.Errorf("%d rows alone", count)
	}
}

// P10.3: a fault's place is at most the text's length; and the text up to it has no fault ahead of it.
func TestPlacesOfFaults(t *testing.T) {
	s := source(14)
	faults := 0
	for j := range 4000 {
		text := s.text(s.spoil(s.statements(1+j%5, j%4)))
		_, place, e := parse.Parse(text)
		if e == api.OK {
			continue
		}
		faults++
		if place < 0 || place > len(text) || (e == api.ErrEnd) != (place == len(text)) {
			t.Fatalf("Parse(%q): %d, %d", text, place, e)
		}
		if _, end, short := parse.Parse(text[:place]); short != api.OK && (short != api.ErrEnd || end != place) {
			t.Fatalf("Parse(%q): %d, %d, but of what is ahead %d, %d", text, place, e, end, short)
		}
	}
	if faults < 2000 {
		t.Errorf("%d faults alone", faults)
	}
}

// holders are the rows in whose bodies row j stands, the nearest last.
func holders(rows []api.Row, j int) []int {
	var list []int
	for k := range j {
		if k+rows[k].Rows >= j {
			list = append(list, k)
		}
	}
	return list
}

// P10.4: a blank in the place of a statement that isn't the last of a body.
func TestStatementTakenOut(t *testing.T) {
	tried, held, last := 0, 0, 0
	for _, text := range append(somePrograms(15, 1000), strings.Join(oneOfEach, ""), deep(30, strings.Join(oneOfEach, "")+"h;")) {
		rows := read(t, text)
		for j, row := range rows {
			around := holders(rows, j)
			behind := j + 1 + row.Rows
			if len(around) > 0 && around[len(around)-1]+rows[around[len(around)-1]].Rows == behind-1 {
				last++
				continue
			}
			next := len(text)
			if behind < len(rows) {
				next = rows[behind].Place
			}
			want := slices.Clone(rows)
			for _, k := range around {
				want[k].Rows -= 1 + row.Rows
			}
			for k := behind; k < len(want); k++ {
				want[k].Place -= next - row.Place - 1
			}
			want = slices.Delete(want, j, behind)
			shorter := text[:row.Place] + " " + text[next:]
			if got := read(t, shorter); !same(got, want) {
				t.Fatalf("%q without row %d: %q has %v, not %v", text, j, shorter, got, want)
			}
			tried++
			held += min(len(around), 1)
		}
	}
	if tried < 3000 || held < 1000 || last < 500 {
		t.Errorf("%d tried, %d of them held, %d last", tried, held, last)
	}
}
