package parse

import (
	"strconv"

	"cubit/api"
)

// A reader goes over a text's tokens, and throws a fault at the first one with which no program goes on.
type reader struct {
	tokens []api.Token
	next   int // the number of the first token that is not yet taken
	end    int // the text's length
	rows   []api.Row
}

func (r *reader) program() {
	for r.next < len(r.tokens) {
		r.statement(0)
	}
}

// statement reads one statement of that depth, and those in its body.
func (r *reader) statement(depth int) {
	first := r.take()
	row := api.Row{Kind: "use", Place: first.At}
	if isOwn(first.Text) {
		row.Kind = first.Text
	} else {
		r.next-- // a use begins with its Name: that is read below, and refused if it is none
	}
	form, _ := shapeOf(row.Kind)
	if form.name {
		row.Name = r.plainName()
	}
	row.Args = r.arguments(form)
	if form.num {
		row.Num = r.number()
	}
	own := len(r.rows)
	r.rows = append(r.rows, row)
	last := r.sign(form.last())
	if form.body {
		r.body(last, depth)
		r.rows[own].Rows = len(r.rows) - own - 1
	}
}

// body reads the statements of a body behind its {, and its }; depth is that of the statement that has it.
func (r *reader) body(open api.Token, depth int) {
	if depth >= api.MaxDepth {
		panic(fault{open.At, api.ErrDeep})
	}
	for !r.sees("}") {
		r.statement(depth + 1)
	}
	r.sign("}")
}

// arguments reads as many as the shape wants: any number of them goes up to the sign behind them.
func (r *reader) arguments(form shape) []api.Arg {
	var args []api.Arg
	for len(args) < form.args || form.args == anyNumber && !r.sees(form.last()) {
		arg := api.Arg{Name: r.plainName(), Index: -1}
		if form.indexed && r.sees("[") {
			r.sign("[")
			arg.Index = r.number()
			r.sign("]")
		}
		args = append(args, arg)
	}
	return args
}

// take: the next token, which is passed.
func (r *reader) take() api.Token {
	if r.next >= len(r.tokens) {
		panic(fault{r.end, api.ErrEnd})
	}
	r.next++
	return r.tokens[r.next-1]
}

// sees: is the next token this sign? (No name and no number has a sign's Text.)
func (r *reader) sees(sign string) bool {
	return r.next < len(r.tokens) && r.tokens[r.next].Text == sign
}

func (r *reader) sign(want string) api.Token {
	t := r.take()
	if t.Text != want {
		panic(fault{t.At, api.ErrSyntax})
	}
	return t
}

func (r *reader) plainName() string {
	t := r.take()
	if t.Kind != api.TokName || isOwn(t.Text) {
		panic(fault{t.At, api.ErrSyntax})
	}
	return t.Text
}

func (r *reader) number() int {
	t := r.take()
	if t.Kind != api.TokNumber {
		panic(fault{t.At, api.ErrSyntax})
	}
	// A number's Text is digits alone: it is refused for its size alone.
	n, err := strconv.ParseInt(t.Text, 10, 64)
	if err != nil || n > api.MaxPart {
		panic(fault{t.At, api.ErrLong})
	}
	return int(n)
}
