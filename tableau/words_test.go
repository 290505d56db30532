package tableau_test

import (
	"slices"
	"strings"
	"testing"

	"cubit/api"
)

// A word is a Pauli string written out: a power of i, and a letter for each qubit, qubit 0 first. The tests reckon with words, letter by letter, what the chapter's words say.
type word struct {
	power   int
	letters string
}

// wordOf is a right string as a word.
func wordOf(p api.Pauli) word {
	letters := make([]byte, p.N)
	for q := range letters {
		letters[q] = "IXZY"[p.X>>q&1|p.Z>>q&1<<1]
	}
	return word{p.Phase, string(letters)}
}

func (w word) pauli() api.Pauli {
	p := api.Pauli{N: len(w.letters), Phase: w.power}
	for q, letter := range w.letters {
		if letter == 'X' || letter == 'Y' {
			p.X |= 1 << q
		}
		if letter == 'Z' || letter == 'Y' {
			p.Z |= 1 << q
		}
	}
	return p
}

// times is the product of two letters: a power of i and a letter.
func times(a, b byte) (int, byte) {
	switch {
	case a == 'I':
		return 0, b
	case b == 'I':
		return 0, a
	case a == b:
		return 0, 'I'
	}
	third := 'X' ^ 'Y' ^ 'Z' ^ a ^ b
	if strings.Contains("XYZX", string([]byte{a, b})) {
		return 1, third
	}
	return 3, third
}

func (w word) mul(v word) word {
	power := w.power + v.power
	letters := make([]byte, len(w.letters))
	for q := range letters {
		more, letter := times(w.letters[q], v.letters[q])
		power += more
		letters[q] = letter
	}
	return word{power % 4, string(letters)}
}

func (w word) turned(power int) word {
	w.power = (w.power + power) % 4
	return w
}

// commutes: on an even number of qubits there are two letters that aren't I and aren't the same.
func (w word) commutes(v word) bool {
	unlike := 0
	for q := range len(w.letters) {
		if a, b := w.letters[q], v.letters[q]; a != 'I' && b != 'I' && a != b {
			unlike++
		}
	}
	return unlike%2 == 0
}

func eye(n int) word { return word{0, strings.Repeat("I", n)} }

// one is a letter on one qubit of n.
func one(n, qubit int, letter byte) word {
	return word{0, strings.Repeat("I", qubit) + string(letter) + strings.Repeat("I", n-1-qubit)}
}

// both is a letter on each of two qubits.
func both(n, a int, first byte, b int, second byte) word {
	return one(n, a, first).mul(one(n, b, second))
}

func flips(w word, qubit int) bool { return w.letters[qubit] == 'X' || w.letters[qubit] == 'Y' }

// wordsOf are the rows of a right tableau.
func wordsOf(t api.Tableau) []word {
	var list []word
	for _, row := range t.Rows {
		list = append(list, wordOf(row))
	}
	return list
}

// tableauOf is the tableau of these rows.
func tableauOf(n int, rows []word) api.Tableau {
	t := api.Tableau{N: n}
	for _, w := range rows {
		t.Rows = append(t.Rows, w.pauli())
	}
	return t
}

// right tells by the chapter's words whether it is a tableau.
func right(t api.Tableau) bool {
	if t.N < 0 || t.N > 64 || len(t.Rows) != 2*t.N {
		return false
	}
	for _, row := range t.Rows {
		if row.N != t.N || row.Phase != 0 && row.Phase != 2 || row.X>>t.N != 0 || row.Z>>t.N != 0 {
			return false
		}
	}
	rows := wordsOf(t)
	for j := range rows {
		for k := range j {
			partners := j-k == t.N
			if rows[j].commutes(rows[k]) == partners {
				return false
			}
		}
	}
	return true
}

// turnOne is what the chapter's table says of X and Z, for a gate on one qubit.
func turnOne(name string) (x, z string) {
	switch name {
	case "i", "w", "wdg":
		return "X", "Z"
	case "x":
		return "X", "-Z"
	case "y":
		return "-X", "-Z"
	case "z":
		return "-X", "Z"
	case "h":
		return "Z", "X"
	case "s":
		return "Y", "Z"
	case "sdg":
		return "-Y", "Z"
	case "v":
		return "X", "-Y"
	case "vdg":
		return "X", "Y"
	}
	panic("no gate on one qubit: " + name)
}

// put is a letter with its sign on a qubit of n.
func put(n, qubit int, text string) word {
	w := one(n, qubit, text[len(text)-1])
	if text[0] == '-' {
		return w.turned(2)
	}
	return w
}

// turn is what the gate makes of w by the chapter's words.
func turn(w word, name string, qubits []int) word {
	n := len(w.letters)
	step := func(name string, qubits ...int) { w = turn(w, name, qubits) }
	if len(qubits) == 1 {
		x, z := turnOne(name)
		return product(w, func(q int, letter byte) word {
			switch {
			case q != qubits[0]:
				return one(n, q, letter)
			case letter == 'X':
				return put(n, q, x)
			}
			return put(n, q, z)
		})
	}
	a, b := qubits[0], qubits[1]
	switch name {
	case "cx", "cz":
		return product(w, func(q int, letter byte) word { return turnPair(n, name, a, b, q, letter) })
	case "cy":
		step("sdg", b)
		step("cx", a, b)
		step("s", b)
	case "swap":
		letters := []byte(w.letters)
		letters[a], letters[b] = letters[b], letters[a]
		return word{w.power, string(letters)}
	case "iswap":
		step("s", a)
		step("s", b)
		step("h", a)
		step("cx", a, b)
		step("cx", b, a)
		step("h", b)
	case "iswapdg":
		step("h", b)
		step("cx", b, a)
		step("cx", a, b)
		step("h", a)
		step("sdg", b)
		step("sdg", a)
	default:
		panic("no gate on two qubits: " + name)
	}
	return w
}

// turnPair is what cx and cz make of X or Z on one qubit.
func turnPair(n int, name string, a, b, q int, letter byte) word {
	switch {
	case name == "cx" && q == a && letter == 'X':
		return both(n, a, 'X', b, 'X')
	case name == "cx" && q == b && letter == 'Z':
		return both(n, a, 'Z', b, 'Z')
	case name == "cz" && q == a && letter == 'X':
		return both(n, a, 'X', b, 'Z')
	case name == "cz" && q == b && letter == 'X':
		return both(n, a, 'Z', b, 'X')
	}
	return one(n, q, letter)
}

// product is the product of what the letters become, Y being i X Z.
func product(w word, becomes func(qubit int, letter byte) word) word {
	all := eye(len(w.letters)).turned(w.power)
	for q := range len(w.letters) {
		switch w.letters[q] {
		case 'X':
			all = all.mul(becomes(q, 'X'))
		case 'Z':
			all = all.mul(becomes(q, 'Z'))
		case 'Y':
			all = all.turned(1).mul(becomes(q, 'X')).mul(becomes(q, 'Z'))
		}
	}
	return all
}

// group is all products of these words.
func group(n int, words []word) map[word]int {
	all := map[word]int{eye(n): 1}
	for _, w := range words {
		next := map[word]int{}
		for v := range all {
			next[v], next[v.mul(w)] = 1, 1
		}
		all = next
	}
	return all
}

// member is 1, if w is a product of these words, -1, if its negative is, else 0. The words are done away with one behind the other: each letter's X and Z is taken out of w, and of the words that are left, by a word that has it.
func member(words []word, w word) int {
	words = slices.Clone(words)
	for q := range len(w.letters) {
		for _, kind := range []string{"XY", "ZY"} {
			has := func(v word) bool { return strings.Contains(kind, v.letters[q:q+1]) }
			at := slices.IndexFunc(words, has)
			if at < 0 {
				continue
			}
			taken := words[at]
			words = slices.Delete(words, at, at+1)
			for j, v := range words {
				if has(v) {
					words[j] = v.mul(taken)
				}
			}
			if has(w) {
				w = w.mul(taken)
			}
		}
	}
	switch w {
	case eye(len(w.letters)):
		return 1
	case eye(len(w.letters)).turned(2):
		return -1
	}
	return 0
}

// outcome is Certain of n qubits by the chapter's words.
func outcome(n int, rows []word, qubit int) (int, bool) {
	for _, w := range rows[n:] {
		if flips(w, qubit) {
			return 0, false
		}
	}
	switch member(rows[n:], one(n, qubit, 'Z')) {
	case 1:
		return 0, true
	case -1:
		return 1, true
	}
	panic("neither Z nor -Z is in the group")
}

// part is Project by the chapter's words, the qubit and the bit being right.
func part(n int, rows []word, qubit, bit int) ([]word, api.Errno) {
	if found, certain := outcome(n, rows, qubit); certain {
		if found != bit {
			return nil, api.ErrNull
		}
		return rows, api.OK
	}
	i := slices.IndexFunc(rows[n:], func(w word) bool { return flips(w, qubit) })
	p := rows[n+i]
	next := slices.Clone(rows)
	for j, w := range rows {
		if flips(w, qubit) && j != i && j != n+i {
			next[j] = p.mul(w)
		}
	}
	next[i] = p
	next[n+i] = one(n, qubit, 'Z').turned(2 * bit)
	return next, api.OK
}

func TestWords(t *testing.T) {
	x, y, z := word{0, "X"}, word{0, "Y"}, word{0, "Z"}
	if x.mul(y) != z.turned(1) || y.mul(z) != x.turned(1) || z.mul(x) != y.turned(1) || y.mul(x) != z.turned(3) || x.mul(z) != y.turned(3) || y.mul(y) != eye(1) {
		t.Error("products of letters")
	}
	if x.commutes(z) || !x.commutes(x) || !(word{0, "XZ"}).commutes(word{2, "ZX"}) || (word{0, "XI"}).commutes(word{0, "YI"}) {
		t.Error("commuting letters")
	}
	if w := (word{2, "XIYZ"}); wordOf(w.pauli()) != w || w.pauli() != (api.Pauli{N: 4, X: 5, Z: 12, Phase: 2}) {
		t.Error("words and strings")
	}
	s := source(1)
	for range 300 {
		rows := wordsOf(s.anyTableau(1 + s.below(5)))
		n := len(rows) / 2
		all := group(n, rows[n:])
		if len(all) != 1<<n {
			t.Fatalf("%v: a group of %d", rows, len(all))
		}
		for range 20 {
			w := s.likely(rows)
			if got, want := member(rows[n:], w), all[w]-all[w.turned(2)]; got != want {
				t.Fatalf("%v of %v: %d, not %d", w, rows, got, want)
			}
		}
	}
}
