package tableau_test

import (
	"slices"
	"testing"

	"cubit/api"
	"cubit/gate"
)

// A source of tableaus and calls: the same ones each time. It makes them of words, without the package's help.
type source uint64

func (s *source) next() uint64 {
	*s = *s*6364136223846793005 + 1442695040888963407
	return uint64(*s) ^ uint64(*s)>>29
}

// below is a number from 0 to n - 1; the highest bits are taken, since the lowest ones repeat soon.
func (s *source) below(n int) int { return int((s.next() >> 33) % uint64(n)) }

// pick is one of a list.
func pick[V any](s *source, list ...V) V { return list[s.below(len(list))] }

// sign is a power of i that is 1 or -1.
func (s *source) sign() int { return 2 * s.below(2) }

// word is any one of n letters, with any sign.
func (s *source) word(n int) word {
	letters := make([]byte, n)
	for q := range letters {
		letters[q] = "IXYZ"[s.below(4)]
	}
	return word{s.sign(), string(letters)}
}

// likely is a word that is in the group of these rows, or its negative, or close to it, or anything.
func (s *source) likely(rows []word) word {
	n := len(rows) / 2
	if s.below(4) == 0 {
		return s.word(n)
	}
	w := eye(n).turned(s.sign())
	for _, row := range rows[n:] {
		if s.below(2) == 0 {
			w = w.mul(row)
		}
	}
	if s.below(3) == 0 && n > 0 {
		w = w.mul(rows[s.below(n)])
		w.power &= 2
	}
	return w
}

// fitted is w times such of the pairs that it commutes with all of them.
func fitted(w word, destabilizers, stabilizers []word) word {
	for i := range stabilizers {
		if !w.commutes(stabilizers[i]) {
			w = w.mul(destabilizers[i])
		}
		if !w.commutes(destabilizers[i]) {
			w = w.mul(stabilizers[i])
		}
	}
	return w
}

// rows are any right ones for n qubits, the first stabilizer being as told, if it is.
func (s *source) rows(n int, first ...word) []word {
	var destabilizers, stabilizers []word
	for len(stabilizers) < n {
		w := fitted(s.word(n), destabilizers, stabilizers)
		if len(stabilizers) < len(first) {
			w = first[len(stabilizers)]
		}
		if w.letters == eye(n).letters {
			continue
		}
		d := w
		for d.commutes(w) {
			d = fitted(s.word(n), destabilizers, stabilizers)
		}
		if len(stabilizers) >= len(first) {
			w.power = s.sign()
		}
		d.power = s.sign()
		destabilizers, stabilizers = append(destabilizers, d), append(stabilizers, w)
	}
	return append(destabilizers, stabilizers...)
}

// partly are right rows for n qubits of which some are certain, multiplied into each other.
func (s *source) partly(n int) []word {
	order := s.qubits(n, n)
	free := s.below(n + 1)
	rows := make([]word, 2*n)
	for i := range n {
		rows[i] = one(n, order[i], 'X').turned(s.sign())
		rows[n+i] = one(n, order[i], 'Z').turned(s.sign())
	}
	for i, w := range s.rows(free) {
		letters := []byte(eye(n).letters)
		for q := range free {
			letters[order[q]] = w.letters[q]
		}
		rows[i%max(free, 1)+i/max(free, 1)*n] = word{w.power, string(letters)}
	}
	for range 3 * n {
		s.mix(rows)
	}
	return rows
}

// mix multiplies rows into others, so that the pairs stay pairs and the group stays as it is.
func (s *source) mix(rows []word) {
	n := len(rows) / 2
	i, j := s.below(n), s.below(n)
	if i == j {
		rows[i] = rows[i].mul(rows[n+i]).turned(1)
		return
	}
	switch s.below(3) {
	case 0:
		rows[n+i], rows[j] = rows[n+i].mul(rows[n+j]), rows[j].mul(rows[i])
	case 1:
		rows[i], rows[j] = rows[i].mul(rows[n+j]), rows[j].mul(rows[n+i])
	default:
		rows[i], rows[j] = rows[j], rows[i]
		rows[n+i], rows[n+j] = rows[n+j], rows[n+i]
	}
}

// anyTableau is a right one of n qubits: any one, or one of which some qubits are certain.
func (s *source) anyTableau(n int) api.Tableau {
	if s.below(2) == 0 {
		return tableauOf(n, s.rows(n))
	}
	return tableauOf(n, s.partly(n))
}

// with is a right tableau that has this word as its first stabilizer.
func (s *source) with(w word) api.Tableau {
	return tableauOf(len(w.letters), s.rows(len(w.letters), w))
}

// qubits are so many of n, none twice.
func (s *source) qubits(n, many int) []int {
	var list []int
	for len(list) < many {
		if q := s.below(n); !slices.Contains(list, q) {
			list = append(list, q)
		}
	}
	return list
}

// clifford are the names of Clifford's gates with so many qubits at most.
func clifford(most int) []string {
	var list []string
	for _, name := range gate.Names() {
		if gate.Clifford(name) && gate.Arity(name) <= most {
			list = append(list, name)
		}
	}
	return list
}

// gate is one of Clifford's for n qubits, 1 or more, with those that it is on.
func (s *source) gate(n int) (string, []int) {
	name := pick(s, clifford(n)...)
	return name, s.qubits(n, gate.Arity(name))
}

// anyGate is a gate and a list of qubits, right or wrong.
func (s *source) anyGate(n int) (string, []int) {
	if n > 0 && s.below(4) > 0 {
		return s.gate(n)
	}
	name := pick(s, append(gate.Names(), "", "none", "X")...)
	var list []int
	for range s.below(5) {
		list = append(list, s.place(n))
	}
	return name, list
}

// place is a qubit of n, or one beside them.
func (s *source) place(n int) int {
	if s.below(8) == 0 {
		return pick(s, beside(n)...)
	}
	return s.below(max(n, 1))
}

// beside are numbers of which n qubits have none.
func beside(n int) []int { return []int{-1, n, n + 1, 64, 65, -1 << 63, 1<<63 - 1} }

// bit is 0 or 1, or none of them.
func (s *source) bit() int {
	if s.below(8) == 0 {
		return pick(s, noBits...)
	}
	return s.below(2)
}

var noBits = []int{-1, 2, 3, -1 << 63, 1<<63 - 1}

// tuples are all lists of so many of n qubits, none twice, in each order.
func tuples(n, many int) [][]int {
	if many == 0 {
		return [][]int{nil}
	}
	var all [][]int
	for _, list := range tuples(n, many-1) {
		for q := range n {
			if !slices.Contains(list, q) {
				all = append(all, append(slices.Clone(list), q))
			}
		}
	}
	return all
}

// words are all of n letters, with the power 0.
func words(n int) []word {
	if n == 0 {
		return []word{{}}
	}
	var all []word
	for _, w := range words(n - 1) {
		for _, letter := range []string{"I", "X", "Y", "Z"} {
			all = append(all, word{0, w.letters + letter})
		}
	}
	return all
}

// signed are lists of rows with each way of signs that the marks tell: bit j of a mark is the sign of row j.
func signed(rows []word, mark int) []word {
	list := slices.Clone(rows)
	for j := range list {
		list[j].power = mark >> j & 1 * 2
	}
	return list
}

// allRows are all right rows of n qubits, without signs: 1, 6 and 720 of n 0, 1 and 2.
func allRows(n int) [][]word {
	all := [][]word{nil}
	for j := range 2 * n {
		var next [][]word
		for _, rows := range all {
			for _, w := range words(n) {
				if fits(rows, w, j-n) {
					next = append(next, append(slices.Clone(rows), w))
				}
			}
		}
		all = next
	}
	return all
}

// fits tells whether w commutes with all rows but its partner.
func fits(rows []word, w word, partner int) bool {
	for k, row := range rows {
		if row.commutes(w) == (k == partner) {
			return false
		}
	}
	return true
}

func TestSource(t *testing.T) {
	for n, want := range []int{1, 6, 720} {
		all := allRows(n)
		if len(all) != want {
			t.Errorf("%d tableaus of %d qubits, not %d", len(all), n, want)
		}
		for _, rows := range all {
			if !right(tableauOf(n, rows)) {
				t.Fatalf("%v isn't right", rows)
			}
		}
	}
	s := source(2)
	surely, ones := 0, 0
	for j := range 400 {
		n := j % 9
		if j%100 == 0 {
			n = 64
		}
		a := s.anyTableau(n)
		if !right(a) {
			t.Fatalf("%v isn't right", wordsOf(a))
		}
		for q := range n {
			if bit, certain := outcome(n, wordsOf(a), q); certain {
				surely++
				ones += bit
			}
		}
	}
	if surely < 200 || ones < 50 || ones > surely-50 {
		t.Errorf("%d outcomes are certain, %d of them 1", surely, ones)
	}
	if a := s.with(word{2, "XYZI"}); !right(a) || wordOf(a.Rows[4]) != (word{2, "XYZI"}) {
		t.Errorf("a tableau with a stabilizer: %v", wordsOf(a))
	}
}
