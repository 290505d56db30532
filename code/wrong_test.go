package code_test

import (
	"math"
	"slices"
	"testing"

	"cubit/api"
	"cubit/code"
	"cubit/pauli"
)

// tells asks for the errors of all calls that take a code, with their zero values beside them; the last one asks for Decode's.
func tells(t *testing.T, what string, c api.Code, p api.Pauli, syndrome uint64, check, sees, does, distance, decode api.Errno) {
	t.Helper()
	if e := code.Check(c); e != check {
		t.Errorf("%s: Check(%v): %d, not %d", what, c, e, check)
	}
	if r, e := code.Syndrome(c, p); e != sees || e != api.OK && r != 0 {
		t.Errorf("%s: Syndrome(%v, %v): %d, %d, not %d", what, c, p, r, e, sees)
	}
	if r, e := code.Logical(c, p); e != does || e != api.OK && r != (api.Pauli{}) {
		t.Errorf("%s: Logical(%v, %v): %v, %d, not %d", what, c, p, r, e, does)
	}
	if r, e := code.Distance(c); e != distance || e != api.OK && r != 0 {
		t.Errorf("%s: Distance(%v): %d, %d, not %d", what, c, r, e, distance)
	}
	if r, e := code.Decode(c, syndrome); e != decode || e != api.OK && r != (api.Pauli{}) {
		t.Errorf("%s: Decode(%v, %d): %v, %d, not %d", what, c, syndrome, r, e, decode)
	}
}

// refused asks that each call refuses a code, whatever else is wrong.
func refused(t *testing.T, what string, c api.Code) {
	t.Helper()
	if isRight(c) {
		t.Fatalf("%s: %v is right", what, c)
	}
	const e = api.ErrCode
	n := min(max(c.N, 0), rows)
	for _, p := range slices.Concat([]api.Pauli{{N: n}, {N: n, Phase: 3}, {N: 5, X: 1}, {N: n, X: 1<<n - 1, Z: 1 & (1<<n - 1)}}, wrongStrings()[:4], otherStrings(n)[:3]) {
		for _, syndrome := range []uint64{0, 1, 1 << n, math.MaxUint64} {
			tells(t, what, c, p, syndrome, e, e, e, e, e)
		}
	}
}

// wrongStrings are such as pauli.Check refuses.
func wrongStrings() []api.Pauli {
	return []api.Pauli{
		{N: 3, X: 8}, {N: 3, Phase: 4}, {N: -1}, {N: 4, Z: 16},
		{N: 65}, {N: math.MinInt}, {N: math.MaxInt}, {N: 1, X: 2}, {N: 1, Z: 2}, {N: 1, X: 1 << 63}, {N: 0, X: 1}, {N: 0, Z: 1}, {N: 63, Z: 1 << 63},
		{N: 1, Phase: 4}, {N: 1, Phase: -1}, {N: 1, Phase: -2}, {N: 1, Phase: math.MaxInt}, {N: 1, Phase: math.MinInt}, {N: 5, X: 32},
		{N: 2, X: 4}, {N: 2, Z: 1 << 40, Phase: 1}, {N: 64, Phase: 4}, {N: 7, X: 1, Phase: -4}, {N: 8, Z: 256}, {N: 9, X: 1, Phase: 6},
	}
}

// otherStrings are right ones, but on other numbers of qubits than n.
func otherStrings(n int) []api.Pauli {
	var all []api.Pauli
	for _, m := range []int{n + 1, n - 1, 0, 1, 5, 9, 63, 64} {
		if m < 0 || m > rows || m == n {
			continue
		}
		for phase := range 4 {
			all = append(all, api.Pauli{N: m, Phase: phase})
			if m > 0 {
				all = append(all, api.Pauli{N: m, X: 1 << (m - 1), Phase: phase}, api.Pauli{N: m, X: 1, Z: 1, Phase: phase})
			}
		}
	}
	return all
}

// rightCodes are some of all kinds: without generators, without logical qubits, with both, up to 64 qubits.
func rightCodes(t *testing.T) []api.Code {
	s := source(31)
	all := []api.Code{bare(1), bare(4), bare(8), bare(9), bare(rows), two(), three(), alone("Y"), alone("XX", "ZZ")}
	for _, name := range names() {
		all = append(all, named(t, name))
	}
	for _, size := range [][2]int{{1, 1}, {3, 3}, {6, 2}, {8, 8}, {8, 5}, {9, 9}, {9, 8}, {10, 3}, {33, 20}, {63, 63}, {rows, 1}, {rows, 40}, {rows, 63}, {rows, rows}} {
		all = append(all, s.code(size[0], size[1]))
	}
	return all
}

// Even Phases are right wherever they stand, and change nothing of what is told but for themselves.
func TestEvenPhases(t *testing.T) {
	for _, c := range rightCodes(t) {
		for _, l := range [][]api.Pauli{c.Gens, c.X, c.Z} {
			for i := range l {
				l[i].Phase = 0
			}
		}
		if !isRight(c) || code.Check(c) != api.OK {
			t.Fatalf("%v isn't right", c)
		}
		plain := copied(c)
		for _, l := range [][]api.Pauli{c.Gens, c.X, c.Z} {
			for i := range l {
				l[i].Phase = 2
				if e := code.Check(c); e != api.OK {
					t.Fatalf("%v: %d", c, e)
				}
			}
		}
		s := source(32)
		for range 10 {
			p := s.string(c.N, 0, 1, 2, 3)
			want, _ := code.Syndrome(plain, p)
			hasSyndrome(t, c, p, want)
		}
		if c.N <= search {
			want, _ := code.Distance(plain)
			hasDistance(t, c, want)
			p, _ := code.Decode(plain, 1<<len(c.Gens)-1)
			decodes(t, c, 1<<len(c.Gens)-1, p)
		}
	}
}

// P23.1: N below 1 and above MaxRows, and other numbers than the lists are for.
func TestWrongN(t *testing.T) {
	for _, c := range rightCodes(t) {
		for _, n := range []int{0, -1, math.MinInt, math.MaxInt, rows + 1, 2 * rows, c.N - 1, c.N + 1, -c.N, c.N + 64} {
			other := copied(c)
			other.N = n
			refused(t, "another N", other)
		}
	}
	refused(t, "none of all", api.Code{})
	refused(t, "none of one", api.Code{N: 1})
	for _, n := range []int{rows + 1, rows + 2} {
		for _, m := range []int{rows, n} {
			c := api.Code{N: n}
			for j := range n {
				c.Gens = append(c.Gens, api.Pauli{N: m, Z: 1 << j})
			}
			refused(t, "more than MaxRows", c)
		}
	}
	refused(t, "none below 1", api.Code{N: -1, Gens: []api.Pauli{{N: -1}}})
}

// lists are those of a code, by their addresses.
func lists(c *api.Code) []*[]api.Pauli { return []*[]api.Pauli{&c.Gens, &c.X, &c.Z} }

// P23.1: one string less or more in each list, in some two and in all three, but for X and Z with generators in their place.
func TestWrongLengths(t *testing.T) {
	for _, c := range rightCodes(t) {
		for ways := 1; ways < 27; ways++ {
			other := copied(c)
			change, way := [3]int{}, ways
			for i, l := range lists(&other) {
				change[i] = way%3 - 1
				way /= 3
				switch {
				case change[i] < 0 && len(*l) > 0:
					*l = (*l)[:len(*l)-1]
				case change[i] > 0:
					*l = append(*l, api.Pauli{N: c.N, X: 1})
				case change[i] < 0:
					change[i] = 0
				}
			}
			if change[0]+change[1] == 0 && change[1] == change[2] {
				continue
			}
			refused(t, "lists of other lengths", other)
		}
	}
	c := two()
	c.X, c.Z = c.X[:1], append(c.Z, c.Z[0])
	refused(t, "as many of both together", c)
	c = two()
	c.Gens, c.Z = append(c.Gens, c.Z[0]), c.Z[1:]
	refused(t, "one of Z is among the generators", c)
	c = two()
	c.Gens, c.X = append(c.Gens, c.X[0]), c.X[1:]
	refused(t, "one of X is among the generators", c)
	c = two()
	c.X, c.Z = nil, nil
	refused(t, "without logical qubits", c)
	c = two()
	c.Gens = nil
	refused(t, "without generators", c)
}

// P23.1: a string that isn't right by itself, or is on fewer or more qubits, or has an odd Phase, at each place of each list.
func TestWrongStringsOfCodes(t *testing.T) {
	for _, c := range rightCodes(t) {
		n := c.N
		changes := []func(p *api.Pauli){
			func(p *api.Pauli) { p.N-- },
			func(p *api.Pauli) { p.N++ },
			func(p *api.Pauli) { p.N = -1 },
			func(p *api.Pauli) { p.N = math.MaxInt },
			func(p *api.Pauli) { *p = api.Pauli{} },
			func(p *api.Pauli) { p.Phase = 1 },
			func(p *api.Pauli) { p.Phase = 3 },
			func(p *api.Pauli) { p.Phase = 4 },
			func(p *api.Pauli) { p.Phase = -2 },
			func(p *api.Pauli) { p.Phase = -1 },
			func(p *api.Pauli) { p.Phase = math.MinInt },
			func(p *api.Pauli) { p.Phase = math.MaxInt },
		}
		if n < rows {
			changes = append(changes, func(p *api.Pauli) { p.X |= 1 << n }, func(p *api.Pauli) { p.Z |= 1 << n }, func(p *api.Pauli) { p.X |= 1 << 63 })
		}
		for i := range 3 {
			for _, j := range []int{0, 1, len(*lists(&c)[i]) - 1} {
				for _, change := range changes {
					other := copied(c)
					if l := *lists(&other)[i]; j >= 0 && j < len(l) {
						change(&l[j])
						refused(t, "a wrong string", other)
					}
				}
			}
		}
	}
}

// P23.1: strings that don't commute though they must, or commute though they mustn't.
func TestWrongCommuting(t *testing.T) {
	for what, change := range map[string]func(c *api.Code){
		"two generators":           func(c *api.Code) { c.Gens[1] = spelled("ZZZI") },
		"a generator with all":     func(c *api.Code) { c.Gens[0] = spelled("XZII") },
		"the first X, a generator": func(c *api.Code) { c.X[0] = spelled("XXIX") },
		"the last X, a generator":  func(c *api.Code) { c.X[1] = spelled("XIXX") },
		"the first Z, a generator": func(c *api.Code) { c.Z[0] = spelled("ZIZZ") },
		"the last Z, a generator":  func(c *api.Code) { c.Z[1] = spelled("ZZIZ") },
		"X, the other generator":   func(c *api.Code) { c.X[0] = spelled("XXIZ") },
		"Z, the other generator":   func(c *api.Code) { c.Z[0] = spelled("ZIZX") },
		"two of X":                 func(c *api.Code) { c.X[1] = spelled("YIYI") },
		"two of Z":                 func(c *api.Code) { c.Z[1] = spelled("YYII") },
		"X and its Z commute":      func(c *api.Code) { c.X[0] = spelled("IIII") },
		"X is its Z":               func(c *api.Code) { c.X[0] = c.Z[0] },
		"Z is a generator":         func(c *api.Code) { c.Z[1] = c.Gens[1] },
		"X and another's Z don't":  func(c *api.Code) { c.X[0] = spelled("IXXI") },
		"Z and another's X don't":  func(c *api.Code) { c.Z[1] = spelled("IZZI") },
		"X exchanged":              func(c *api.Code) { c.X[0], c.X[1] = c.X[1], c.X[0] },
		"Z exchanged":              func(c *api.Code) { c.Z[0], c.Z[1] = c.Z[1], c.Z[0] },
		"one X twice":              func(c *api.Code) { c.X[1] = c.X[0] },
		"one pair twice":           func(c *api.Code) { c.X[1], c.Z[1] = c.X[0], c.Z[0] },
		"X for a generator":        func(c *api.Code) { c.X[0], c.Gens[0] = c.Gens[0], c.X[0] },
		"Z for a generator":        func(c *api.Code) { c.Z[1], c.Gens[1] = c.Gens[1], c.Z[1] },
	} {
		c := two()
		change(&c)
		refused(t, what, c)
	}
	// X and Z of one qubit may be exchanged, and those of both.
	for range 2 {
		c := two()
		c.X, c.Z = c.Z, c.X
		if e := code.Check(c); e != api.OK {
			t.Errorf("%v: %d", c, e)
		}
		c.X[0], c.Z[0] = c.Z[0], c.X[0]
		if e := code.Check(c); e != api.OK {
			t.Errorf("%v: %d", c, e)
		}
	}
}

// P23.1: generators of which some have the string of identities as their product, with each Phase that can come; that string alone; the same one twice.
func TestWrongProducts(t *testing.T) {
	for _, letters := range [][]string{
		{"I"}, {"II", "ZZ"}, {"XX", "II"}, {"XX", "XX"}, {"XXI", "ZZI", "YYI"}, {"IIZ", "XXI", "XXZ"},
		{"ZZII", "IZZI", "ZIZI", "IIIZ"}, {"ZZII", "IIZZ", "IZZI", "ZIIZ"}, {"XXXX", "IIII", "ZZZZ", "XXII"}, {"XXXX", "ZZZZ", "YYYY", "XXII"},
	} {
		c := alone(letters...)
		if !commuteAsTheyMust(letters, nil, nil) {
			t.Fatalf("%v has another fault", c)
		}
		for signs := range 1 << c.N {
			for i := range c.Gens {
				c.Gens[i].Phase = signs >> i & 1 * 2
			}
			refused(t, "a product that is I, and no logical qubits", c)
		}
	}
	for _, pair := range []struct{ gens, x, z []string }{
		{[]string{"IIII"}, []string{"XIII", "IXII", "IIXI"}, []string{"ZIII", "IZII", "IIZI"}},
		{[]string{"ZIII", "ZIII"}, []string{"IXII", "IIXI"}, []string{"IZII", "IIZI"}},
		{[]string{"XXII", "ZZII", "YYII"}, []string{"IIXI"}, []string{"IIZI"}},
		{[]string{"IIZZ", "ZZII", "ZZZZ"}, []string{"XXII"}, []string{"IZII"}},
	} {
		c := api.Code{N: 4, Gens: list(pair.gens...), X: list(pair.x...), Z: list(pair.z...)}
		for signs := range 1 << len(c.Gens) {
			for i := range c.Gens {
				c.Gens[i].Phase = signs >> i & 1 * 2
			}
			if !commuteAsTheyMust(allLetters(c.Gens), allLetters(c.X), allLetters(c.Z)) {
				t.Fatalf("%v has another fault", c)
			}
			refused(t, "a product that is I, with logical qubits", c)
		}
	}
}

// P23.1: likewise of great codes: one generator becomes the product of some others, which commutes with all that it must.
func TestGreatWrongProducts(t *testing.T) {
	s := source(33)
	for range 60 {
		n := pick(&s, 2, 8, 9, 32, 63, rows, rows)
		c := s.code(n, 1+s.below(n))
		at := s.below(len(c.Gens))
		p := api.Pauli{N: n, Phase: 2 * s.below(2)}
		for i, g := range c.Gens {
			if i != at && s.below(3) > 0 {
				p = s.times(p, g)
			}
		}
		c.Gens[at] = p
		refused(t, "a product of others", c)
	}
}

// P23.1: strings that pauli.Check refuses are told ahead of all but the code.
func TestWrongStrings(t *testing.T) {
	for _, c := range rightCodes(t) {
		for _, p := range wrongStrings() {
			if e := pauli.Check(p); e != api.ErrPauli {
				t.Fatalf("%v: %d", p, e)
			}
			if _, e := code.Syndrome(c, p); e != api.ErrPauli {
				t.Errorf("Syndrome(%v, %v): %d", c, p, e)
			}
			if r, e := code.Logical(c, p); e != api.ErrPauli || r != (api.Pauli{}) {
				t.Errorf("Logical(%v, %v): %v, %d", c, p, r, e)
			}
		}
		for phase := range 9 {
			p := api.Pauli{N: c.N, X: 1, Z: 1 << (c.N - 1), Phase: phase - 2}
			want := api.ErrPauli
			if p.Phase >= 0 && p.Phase < 4 {
				want = api.OK
			}
			if _, e := code.Syndrome(c, p); e != want {
				t.Errorf("Syndrome(%v, %v): %d", c, p, e)
			}
		}
	}
}

// P23.1: then strings on fewer and on more qubits than the code's, with each Phase.
func TestOtherQubits(t *testing.T) {
	for _, c := range rightCodes(t) {
		for _, p := range otherStrings(c.N) {
			if r, e := code.Syndrome(c, p); e != api.ErrArg || r != 0 {
				t.Errorf("Syndrome(%v, %v): %d, %d", c, p, r, e)
			}
			breaks(t, c, p)
		}
	}
}

// P23.1: Distance and Decode take eight qubits, and refuse nine and more ahead of what is wrong with a number.
func TestTooLong(t *testing.T) {
	for _, c := range rightCodes(t) {
		beyond := uint64(1) << len(c.Gens)
		for _, syndrome := range []uint64{0, beyond - 1, beyond, math.MaxUint64, 1 << 63} {
			_, e := code.Distance(c)
			p, f := code.Decode(c, syndrome)
			switch {
			case c.N > search && (e != api.ErrLong || f != api.ErrLong || p != (api.Pauli{})):
				t.Errorf("%v at %d: %d and %d", c, syndrome, e, f)
			case c.N <= search && (e != api.OK || (f == api.OK) != (syndrome < beyond) || f != api.OK && f != api.ErrArg):
				t.Errorf("%v at %d: %d and %d", c, syndrome, e, f)
			}
		}
	}
}

// P23.1: each one at or above the number of generators alone, and with all below it.
func TestWrongSyndromes(t *testing.T) {
	for _, c := range rightCodes(t) {
		if c.N > search {
			continue
		}
		for bit := len(c.Gens); bit < 64; bit++ {
			for _, syndrome := range []uint64{1 << bit, 1<<bit - 1 | 1<<bit, 1<<bit | 1, 1<<bit | 1<<63} {
				if p, e := code.Decode(c, syndrome); p != (api.Pauli{}) || e != api.ErrArg {
					t.Errorf("Decode(%v, %d): %v, %d", c, syndrome, p, e)
				}
			}
		}
	}
}

// shaped is a code with something changed, right or not.
func (s *source) shaped(c api.Code) api.Code {
	c = copied(c)
	l := pick(s, lists(&c)...)
	if s.below(12) == 0 {
		c.N += s.below(5) - 2
		return c
	}
	if len(*l) == 0 || s.below(12) == 0 {
		*l = append(*l, s.string(max(c.N, 0), 0, 2))
		return c
	}
	at := s.below(len(*l))
	p := &(*l)[at]
	switch s.below(10) {
	case 0:
		*l = slices.Delete(*l, at, at+1)
	case 1:
		p.X ^= 1 << s.below(max(p.N, 1))
	case 2:
		p.Z ^= 1 << s.below(max(p.N, 1))
	case 3:
		*p = s.shapedString(*p)
	case 4:
		p.Phase = s.below(9) - 3
	case 5:
		*p = (*l)[s.below(len(*l))]
	case 6:
		other := (*l)[s.below(len(*l))]
		*p = api.Pauli{N: p.N, X: p.X ^ other.X, Z: p.Z ^ other.Z, Phase: p.Phase}
	case 7:
		m := pick(s, lists(&c)...)
		if len(*m) > 0 {
			i := s.below(len(*m))
			*p, (*m)[i] = (*m)[i], *p
		}
	case 8:
		if len(c.Gens) > 0 {
			*p = s.times(*p, pick(s, c.Gens...))
		}
	case 9:
		*p = api.Pauli{N: p.N}
	}
	return c
}

// shapedString is a string with something changed, right or not.
func (s *source) shapedString(p api.Pauli) api.Pauli {
	switch s.below(8) {
	case 0:
		p.N += s.below(5) - 2
	case 1:
		p.X |= 1 << s.below(64)
	case 2:
		p.Z |= 1 << s.below(64)
	case 3:
		p.Phase += s.below(7) - 3
	}
	return p
}

// wants are the errors of all calls by the chapter's words, in the order of tells.
func wants(c api.Code, p api.Pauli, syndrome uint64) (check, sees, does, distance, decode api.Errno) {
	if !isRight(c) {
		return api.ErrCode, api.ErrCode, api.ErrCode, api.ErrCode, api.ErrCode
	}
	switch {
	case p.N < 0 || p.N > rows || p.Phase < 0 || p.Phase > 3 || !rightString(api.Pauli{N: p.N, X: p.X, Z: p.Z}, p.N):
		sees, does = api.ErrPauli, api.ErrPauli
	case p.N != c.N:
		sees, does = api.ErrArg, api.ErrArg
	case viewOf(c).sees(lettersOf(p)).syndrome != 0:
		does = api.ErrArg
	}
	switch {
	case c.N > search:
		distance, decode = api.ErrLong, api.ErrLong
	case len(c.Gens) < 64 && syndrome >= 1<<len(c.Gens):
		decode = api.ErrArg
	}
	return check, sees, does, distance, decode
}

// P1, P23.1: calls with one thing and more changed tell what the words do, and never panic.
func TestAllShapes(t *testing.T) {
	s := source(34)
	codes := rightCodes(t)
	var right, wrong int
	for range 12000 {
		c := pick(&s, codes...)
		if s.below(3) > 0 {
			n := 1 + s.below(6)
			c = s.code(n, s.below(n+1))
		}
		for range s.below(4) {
			c = s.shaped(c)
		}
		n := max(c.N, 0)
		p := pick(&s, s.string(min(n, rows), 0, 1, 2, 3), api.Pauli{N: c.N, Phase: s.below(4)})
		if s.below(3) == 0 {
			p = s.shapedString(p)
		}
		syndrome := s.number(s.below(min(n, 63)+2)) & (1<<s.below(65) - 1)
		check, sees, does, distance, decode := wants(c, p, syndrome)
		tells(t, "any", c, p, syndrome, check, sees, does, distance, decode)
		if check == api.OK {
			right++
		} else {
			wrong++
		}
		if t.Failed() {
			return
		}
	}
	if right < 3000 || wrong < 3000 {
		t.Errorf("%d right, %d wrong", right, wrong)
	}
}

// P1: long lists are refused by their lengths.
func TestLongLists(t *testing.T) {
	long := make([]api.Pauli, 1<<20)
	for _, c := range []api.Code{{N: 4, Gens: long}, {N: 1 << 20, Gens: long}, {N: 64, X: long, Z: long}, {N: 64, Gens: long, X: long, Z: long}, {N: math.MaxInt, Gens: long}, {N: 1 << 21, Gens: long, X: long, Z: long}} {
		tells(t, "long lists", c, api.Pauli{N: 4}, 0, api.ErrCode, api.ErrCode, api.ErrCode, api.ErrCode, api.ErrCode)
	}
}
