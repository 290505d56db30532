package parse

import (
	"strconv"
	"strings"

	"cubit/api"
)

// checkRows throws ErrSyntax, if these are not the rows of statements of that depth, one behind the other with their bodies.
func checkRows(rows []api.Row, depth int) {
	for len(rows) > 0 {
		row, behind := rows[0], rows[1:]
		form, ok := shapeOf(row.Kind)
		if !ok || !fits(row, form) || row.Rows < 0 || row.Rows > len(behind) {
			panic(fault{0, api.ErrSyntax})
		}
		if form.body {
			if depth >= api.MaxDepth {
				panic(fault{0, api.ErrSyntax})
			}
			checkRows(behind[:row.Rows], depth+1)
		} else if row.Rows != 0 {
			panic(fault{0, api.ErrSyntax})
		}
		rows = behind[row.Rows:]
	}
}

// fits: has the row what its shape wants, and nothing else? Its Rows are not looked at.
func fits(row api.Row, form shape) bool {
	if form.name && !isPlain(row.Name) || !form.name && row.Name != "" {
		return false
	}
	if form.num && !isNumber(row.Num) || !form.num && row.Num != 0 {
		return false
	}
	if form.args != anyNumber && len(row.Args) != form.args {
		return false
	}
	for _, arg := range row.Args {
		if !isPlain(arg.Name) || arg.Index != -1 && !(form.indexed && isNumber(arg.Index)) {
			return false
		}
	}
	return true
}

func isNumber(n int) bool { return n >= 0 && int64(n) <= api.MaxPart }

// A writer makes a text of tokens, and throws ErrLong where it would be too long: no more than MaxSource bytes are ever held.
type writer struct {
	text strings.Builder
	last string // the line's last token
}

// body writes right rows, which stand in so many bodies.
func (w *writer) body(rows []api.Row, depth int) {
	for len(rows) > 0 {
		row, behind := rows[0], rows[1:]
		form, _ := shapeOf(row.Kind)
		w.begin(depth)
		w.statement(row, form)
		w.end()
		if form.body {
			w.body(behind[:row.Rows], depth+1)
			w.begin(depth)
			w.token("}")
			w.end()
		}
		rows = behind[row.Rows:]
	}
}

// statement writes a statement's tokens up to its ; or {.
func (w *writer) statement(row api.Row, form shape) {
	if row.Kind != "use" {
		w.token(row.Kind)
	}
	if form.name {
		w.token(row.Name)
	}
	for _, arg := range row.Args {
		w.token(arg.Name)
		if arg.Index >= 0 {
			w.token("[")
			w.token(strconv.Itoa(arg.Index))
			w.token("]")
		}
	}
	if form.num {
		w.token(strconv.Itoa(row.Num))
	}
	w.token(form.last())
}

func (w *writer) begin(depth int) {
	for range depth {
		w.put("  ")
	}
	w.last = ""
}

func (w *writer) end() { w.put("\n") }

// token writes a token of a line, with a blank ahead where one belongs.
func (w *writer) token(text string) {
	first, inIndex := w.last == "", w.last == "["
	if !first && !inIndex && text != ";" && text != "[" && text != "]" {
		w.put(" ")
	}
	w.put(text)
	w.last = text
}

func (w *writer) put(text string) {
	if len(text) > api.MaxSource-w.text.Len() {
		panic(fault{0, api.ErrLong})
	}
	w.text.WriteString(text)
}
