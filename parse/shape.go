package parse

import "cubit/lex"

// anyNumber, as a shape's args: as many as one likes.
const anyNumber = -1

// A shape is what the statements of a kind are made of, in this order: the kind's own word (but of use), a Name, Args, a Num, and then a body or ;.
type shape struct {
	name    bool
	args    int
	indexed bool // may an argument have an index?
	num     bool
	body    bool
}

// shapeOf: the shape of a kind; false, if it is none of the eight.
func shapeOf(kind string) (shape, bool) {
	switch kind {
	case "qubits", "bits":
		return shape{name: true, num: true}, true
	case "gate":
		return shape{name: true, args: anyNumber, body: true}, true
	case "repeat":
		return shape{num: true, body: true}, true
	case "if":
		return shape{name: true, num: true, body: true}, true
	case "measure":
		return shape{args: 2, indexed: true}, true
	case "reset":
		return shape{args: 1, indexed: true}, true
	case "use":
		return shape{name: true, args: anyNumber, indexed: true}, true
	}
	return shape{}, false
}

// last: the sign with which a statement's first line ends.
func (s shape) last() string {
	if s.body {
		return "{"
	}
	return ";"
}

// isOwn: is the name a word of its own? The kind use has none: a gate may be named so.
func isOwn(name string) bool {
	_, isKind := shapeOf(name)
	return isKind && name != "use"
}

func isPlain(name string) bool {
	return lex.IsName(name) && !isOwn(name)
}
