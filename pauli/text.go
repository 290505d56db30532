package pauli

import (
	"strings"

	"cubit/api"
)

// letters are the four by their kinds: bit 0 of a kind is that of X, bit 1 that of Z.
const letters = "IXZY"

// kindOf is the kind of a letter; below 0, if it is none of the four.
func kindOf(letter byte) int { return strings.IndexByte(letters, letter) }

// Text is a's sign and its letters, the highest qubit first.
func Text(a api.Pauli) (string, api.Errno) {
	if e := Check(a); e != api.OK {
		return "", e
	}
	text := []byte(signOf(a.Phase))
	for j := a.N - 1; j >= 0; j-- {
		text = append(text, letters[a.X>>j&1|a.Z>>j&1<<1])
	}
	return string(text), api.OK
}

// signOf is the text of i to the power phase, 0 to 3.
func signOf(phase int) string {
	switch phase {
	case 0:
		return "+"
	case 1:
		return "+i"
	case 2:
		return "-"
	}
	return "-i"
}

// Parse is the string of a text. All letters are looked at ahead of their number: a wrong one is told however many there are.
func Parse(s string) (api.Pauli, api.Errno) {
	phase, word := cutSign(s)
	for _, letter := range []byte(word) {
		if kindOf(letter) < 0 {
			return api.Pauli{}, api.ErrPauli
		}
	}
	if len(word) > api.MaxRows {
		return api.Pauli{}, api.ErrLong
	}
	p := api.Pauli{N: len(word), Phase: phase}
	for _, letter := range []byte(word) {
		k := kindOf(letter)
		p.X = p.X<<1 | uint64(k&1)
		p.Z = p.Z<<1 | uint64(k>>1)
	}
	return p, api.OK
}

// cutSign is the power of i that a text begins with, and what follows. No letter is a sign, so as much as can be is the sign.
func cutSign(s string) (phase int, rest string) {
	rest, minus := strings.CutPrefix(s, "-")
	if minus {
		phase = 2
	} else {
		rest = strings.TrimPrefix(s, "+")
	}
	if after, turned := strings.CutPrefix(rest, "i"); turned {
		return phase + 1, after
	}
	return phase, rest
}
