package flat_test

import (
	"math"
	"math/big"
	"reflect"
	"slices"
	"strconv"
	"testing"

	"cubit/api"
	"cubit/flat"
)

// A reading is rows read by the chapter's words: everything is looked up among the rows themselves.
type reading struct {
	rows []api.Row
	ops  []api.Op
	from []int // of each operation: the row outside of definitions
}

func hasBody(kind string) bool { return kind == "gate" || kind == "repeat" || kind == "if" }

// around are the rows in whose bodies a row stands, from the outermost on.
func (r *reading) around(i int) []int {
	var list []int
	for j := range i {
		if hasBody(r.rows[j].Kind) && j+r.rows[j].Rows >= i {
			list = append(list, j)
		}
	}
	return list
}

// left is how many rows are behind a row, within the body in which it stands.
func (r *reading) left(i int) int {
	last := len(r.rows) - 1
	for _, j := range r.around(i) {
		last = min(last, j+r.rows[j].Rows)
	}
	return last - i
}

// ahead finds the row ahead of row i that is of the Kind and has the name.
func (r *reading) ahead(i int, kind, name string) (int, bool) {
	for j := range i {
		if r.rows[j].Kind == kind && r.rows[j].Name == name {
			return j, true
		}
	}
	return 0, false
}

func (r *reading) taken(i int, name string) bool {
	for _, kind := range []string{"qubits", "bits", "gate"} {
		if _, ok := r.ahead(i, kind, name); ok {
			return true
		}
	}
	return factOf(name).qubits > 0
}

// together is how many qubits or bits all registers ahead have.
func (r *reading) together(i int, kind string) int {
	sum := 0
	for _, row := range r.rows[:i] {
		if row.Kind == kind {
			sum += row.Num
		}
	}
	return sum
}

// depth of a gate, seen from row i.
func (r *reading) depth(i int, name string) int {
	if factOf(name).qubits > 0 {
		return 0
	}
	j, _ := r.ahead(i, "gate", name)
	deepest := 0
	for k := j + 1; k <= j+r.rows[j].Rows; k++ {
		if r.rows[k].Kind == "use" {
			deepest = max(deepest, r.depth(j, r.rows[k].Name))
		}
	}
	return deepest + 1
}

// fault is the first error of row i, all rows ahead being right.
func (r *reading) fault(i int) api.Errno {
	row := r.rows[i]
	kinds := []string{"qubits", "bits", "gate", "repeat", "if", "use", "measure", "reset"}
	if !slices.Contains(kinds, row.Kind) || row.Rows != 0 && !hasBody(row.Kind) || row.Rows < 0 || row.Rows > r.left(i) {
		return api.ErrSyntax
	}
	around := r.around(i)
	if len(around) > 32 {
		return api.ErrDeep
	}
	if len(around) > 0 && slices.Contains(kinds[:3], row.Kind) {
		return api.ErrSyntax
	}
	if len(around) > 0 && r.rows[around[0]].Kind == "gate" && row.Kind != "use" && row.Kind != "repeat" {
		return api.ErrSyntax
	}
	switch row.Kind {
	case "qubits", "bits":
		if r.taken(i, row.Name) {
			return api.ErrName
		}
		if row.Num < 1 {
			return api.ErrIndex
		}
		sum := new(big.Int).Add(big.NewInt(int64(row.Num)), big.NewInt(int64(r.together(i, row.Kind))))
		if sum.Cmp(big.NewInt(64)) > 0 {
			return api.ErrLong
		}
	case "gate":
		return r.gateFault(i)
	case "repeat":
		if row.Num < 0 {
			return api.ErrIndex
		}
	case "if":
		j, ok := r.ahead(i, "bits", row.Name)
		if !ok {
			return api.ErrName
		}
		beyond := new(big.Int).Lsh(big.NewInt(1), uint(r.rows[j].Num))
		if row.Num < 0 || big.NewInt(int64(row.Num)).Cmp(beyond) >= 0 {
			return api.ErrIndex
		}
	case "use":
		return r.useFault(i)
	case "measure", "reset":
		if len(row.Args) != map[string]int{"measure": 2, "reset": 1}[row.Kind] {
			return api.ErrArity
		}
		for j, a := range row.Args {
			if e := r.argFault(i, kinds[j], a); e != api.OK {
				return e
			}
		}
	}
	return api.OK
}

func (r *reading) gateFault(i int) api.Errno {
	row := r.rows[i]
	if r.taken(i, row.Name) {
		return api.ErrName
	}
	if len(row.Args) == 0 {
		return api.ErrArity
	}
	for _, a := range row.Args {
		if a.Index != -1 {
			return api.ErrIndex
		}
	}
	if sameArgs(row.Args) {
		return api.ErrSame
	}
	return api.OK
}

// sameArgs: are two of them the same?
func sameArgs(args []api.Arg) bool {
	for j := range args {
		for k := range j {
			if args[j] == args[k] {
				return true
			}
		}
	}
	return false
}

// argFault is what is wrong with an element of a register.
func (r *reading) argFault(i int, kind string, a api.Arg) api.Errno {
	j, ok := r.ahead(i, kind, a.Name)
	if !ok {
		return api.ErrName
	}
	if a.Index < 0 || a.Index >= r.rows[j].Num {
		return api.ErrIndex
	}
	return api.OK
}

func (r *reading) useFault(i int) api.Errno {
	row := r.rows[i]
	in := -1
	if around := r.around(i); len(around) > 0 && r.rows[around[0]].Kind == "gate" {
		in = around[0]
	}
	if in >= 0 && r.rows[in].Name == row.Name {
		return api.ErrLoop
	}
	wanted := factOf(row.Name).qubits
	if j, ok := r.ahead(i, "gate", row.Name); ok {
		wanted = len(r.rows[j].Args)
	}
	if wanted == 0 {
		return api.ErrGate
	}
	if len(row.Args) != wanted {
		return api.ErrArity
	}
	for _, a := range row.Args {
		if in < 0 {
			if e := r.argFault(i, "qubits", a); e != api.OK {
				return e
			}
			continue
		}
		if a.Index != -1 {
			return api.ErrIndex
		}
		if !slices.Contains(r.rows[in].Args, a) {
			return api.ErrName
		}
	}
	if sameArgs(row.Args) {
		return api.ErrSame
	}
	if in >= 0 && r.depth(i, row.Name)+1 > 32 {
		return api.ErrDeep
	}
	return api.OK
}

// number is an element's in the circuit.
func (r *reading) number(kind string, a api.Arg) int {
	j, _ := r.ahead(len(r.rows), kind, a.Name)
	return r.together(j, kind) + a.Index
}

// do does rows from one up to another, in a definition with these qubits for its parameters, under these values of registers, for the row outside that is told (-1: each for itself).
func (r *reading) do(begin, end int, qubits map[string]int, wants map[string]int, outside int) {
	for i := begin; i < end && len(r.ops) <= 4096; i++ {
		row, from := r.rows[i], outside
		if outside < 0 {
			from = i
		}
		switch row.Kind {
		case "repeat":
			for n := 0; n < row.Num && len(r.ops) <= 4096; n++ {
				before := len(r.ops)
				r.do(i+1, i+1+row.Rows, qubits, wants, outside)
				if len(r.ops) == before {
					break // and so it is each time
				}
			}
		case "if":
			if v, ok := wants[row.Name]; !ok || v == row.Num {
				more := map[string]int{row.Name: row.Num}
				for name, v := range wants {
					more[name] = v
				}
				r.do(i+1, i+1+row.Rows, qubits, more, outside)
			}
		case "measure":
			r.add(api.Op{Kind: api.OpMeasure, Qubits: []int{r.number("qubits", row.Args[0])}, Bit: r.number("bits", row.Args[1])}, wants, from)
		case "reset":
			r.add(api.Op{Kind: api.OpReset, Qubits: []int{r.number("qubits", row.Args[0])}}, wants, from)
		case "use":
			r.doUse(i, qubits, wants, from)
		}
		i += row.Rows
	}
}

func (r *reading) doUse(i int, qubits map[string]int, wants map[string]int, from int) {
	row := r.rows[i]
	var on []int
	for _, a := range row.Args {
		if qubits == nil {
			on = append(on, r.number("qubits", a))
		} else {
			on = append(on, qubits[a.Name])
		}
	}
	j, ok := r.ahead(i, "gate", row.Name)
	if !ok {
		r.add(api.Op{Kind: api.OpGate, Name: row.Name, Qubits: on}, wants, from)
		return
	}
	inner := map[string]int{}
	for k, a := range r.rows[j].Args {
		inner[a.Name] = on[k]
	}
	r.do(j+1, j+1+r.rows[j].Rows, inner, wants, from)
}

func (r *reading) add(op api.Op, wants map[string]int, from int) {
	for name, v := range wants {
		j, _ := r.ahead(len(r.rows), "bits", name)
		for b := range r.rows[j].Num {
			bit := uint64(1) << (r.together(j, "bits") + b)
			op.If = true
			op.Mask |= bit
			if v>>b&1 == 1 {
				op.Value |= bit
			}
		}
	}
	if len(r.ops) <= 4096 {
		r.ops, r.from = append(r.ops, op), append(r.from, from)
	}
}

// reckoned is what Flat must tell.
func reckoned(rows []api.Row) (api.Circuit, int, api.Errno) {
	r := reading{rows: rows}
	for i, row := range rows {
		if e := r.fault(i); e != api.OK {
			return api.Circuit{}, row.Place, e
		}
	}
	r.do(0, len(rows), nil, nil, -1)
	if len(r.ops) > 4096 {
		return api.Circuit{}, rows[r.from[4096]].Place, api.ErrMany
	}
	halvings := 0
	for j, op := range r.ops {
		halvings += factOf(op.Name).halve
		if halvings > 36 {
			return api.Circuit{}, rows[r.from[j]].Place, api.ErrRoots
		}
	}
	return of(r.together(len(rows), "qubits"), r.together(len(rows), "bits"), r.ops...), 0, api.OK
}

// holds holds Flat against that, and tells its error.
func holds(t *testing.T, rows []api.Row) api.Errno {
	t.Helper()
	c, place, e := flat.Flat(rows)
	want, wantPlace, wantE := reckoned(rows)
	if e != wantE || place != wantPlace || e == api.OK && !same(c, want) || e != api.OK && !reflect.DeepEqual(c, api.Circuit{}) {
		t.Fatalf("Flat(%v): %v, %d, %d, not %v, %d, %d", rows, few(c), place, e, few(want), wantPlace, wantE)
	}
	return e
}

// A source makes numbers, the same ones in each run.
type source uint64

// next is a number below n.
func (s *source) next(n int) int {
	*s = *s*6364136223846793005 + 1442695040888963407
	return int(uint64(*s) >> 33 % uint64(n))
}

// one is one of a list.
func one[V any](s *source, list ...V) V { return list[s.next(len(list))] }

// shuffled is a list in some order.
func shuffled[V any](s *source, list []V) []V {
	list = slices.Clone(list)
	for j := range list {
		k := s.next(j + 1)
		list[j], list[k] = list[k], list[j]
	}
	return list
}

// A draft is a program in the making: what can be named up to here.
type draft struct {
	s      *source
	rows   []api.Row
	qubits []api.Arg // all of them
	bits   []api.Arg
	sizes  map[string]int // of the bit registers
	regs   []string       // their names
	gates  []fact         // those that can be used
	halve  bool           // may gates be used that halve?
}

// program is rows that are right, but that they may come to too many operations or halvings.
func (s *source) program() []api.Row {
	d := draft{s: s, gates: slices.Clone(facts), sizes: map[string]int{}, halve: s.next(3) == 0}
	d.register("q")
	d.definitions(s.next(3))
	if s.next(3) > 0 {
		d.register("c")
	}
	for range s.next(4) {
		switch s.next(3) {
		case 0:
			d.register(one(s, "p", "r", "d", "e") + strconv.Itoa(len(d.rows)))
		case 1:
			d.definitions(1)
		default:
			d.rows = append(d.rows, d.body(3, 2, nil)...)
		}
	}
	d.rows = append(d.rows, d.body(5, 3, nil)...)
	for j := range d.rows {
		d.rows[j].Place = one(s, 10*j, 10*j, 10*j+7, 5000-j)
	}
	return d.rows
}

// register declares one: of bits, if its name begins with c to e, else of qubits.
func (d *draft) register(name string) {
	n := 1 + d.s.next(3)
	kind := "qubits"
	if name[0] <= 'e' {
		kind = "bits"
		d.regs, d.sizes[name] = append(d.regs, name), n
	}
	for j := range n {
		if kind == "bits" {
			d.bits = append(d.bits, arg(name, j))
		} else {
			d.qubits = append(d.qubits, arg(name, j))
		}
	}
	d.rows = append(d.rows, api.Row{Kind: kind, Name: name, Num: n})
}

// definitions defines so many gates.
func (d *draft) definitions(n int) {
	for range n {
		name := "g" + strconv.Itoa(len(d.gates))
		params := shuffled(d.s, []string{"a", "b", "q", "x", "c", name})[:1+d.s.next(4)]
		var args []api.Arg
		for _, p := range params {
			args = append(args, par(p))
		}
		row := api.Row{Kind: "gate", Name: name, Args: args}
		d.rows = append(d.rows, with(row, d.body(3, 2, args)...)...)
		d.gates = append(d.gates, fact{name: name, qubits: len(params)})
	}
}

// body is some rows, in a definition with these parameters or outside.
func (d *draft) body(most, deep int, params []api.Arg) []api.Row {
	var rows []api.Row
	for range d.s.next(most + 1) {
		switch k := d.s.next(12); {
		case k < 3 && deep > 0:
			n := one(d.s, 0, 1, 2, 2, 3, 4, 5)
			if d.s.next(40) == 0 {
				n = one(d.s, 30, 400, 4096, 1<<40, math.MaxInt)
			}
			rows = append(rows, again(n, d.body(most, deep-1, params)...)...)
		case k < 6 && deep > 0 && params == nil && len(d.regs) > 0:
			name := one(d.s, d.regs...)
			rows = append(rows, only(name, d.s.next(1<<d.sizes[name]), d.body(most, deep-1, params)...)...)
		case k == 6 && params == nil && len(d.bits) > 0:
			rows = append(rows, api.Row{Kind: "measure", Args: []api.Arg{one(d.s, d.qubits...), one(d.s, d.bits...)}})
		case k == 7 && params == nil:
			rows = append(rows, api.Row{Kind: "reset", Args: []api.Arg{one(d.s, d.qubits...)}})
		default:
			rows = append(rows, d.use(params))
		}
	}
	return rows
}

// use is a use of some gate, of the last ones more often than of others.
func (d *draft) use(params []api.Arg) api.Row {
	pool := params
	if params == nil {
		pool = d.qubits
	}
	for {
		f := one(d.s, d.gates[max(0, len(d.gates)-1-d.s.next(len(d.gates))):]...)
		if f.qubits <= len(pool) && (f.halve == 0 || d.halve) {
			return use(f.name, shuffled(d.s, pool)[:f.qubits]...)
		}
	}
}

// spoil changes some field of some rows, or takes rows away, or puts some in.
func (s *source) spoil(rows []api.Row) []api.Row {
	rows = slices.Clone(rows)
	for range 1 + s.next(2) {
		if len(rows) == 0 {
			return rows
		}
		j := s.next(len(rows))
		row := &rows[j]
		switch s.next(8) {
		case 0:
			row.Kind = one(s, "qubits", "bits", "gate", "repeat", "if", "use", "measure", "reset", "foo", "")
		case 1:
			row.Name = one(s, "q", "c", "x", "h", "cx", "g25", "g26", "new", "", row.Name+"x", rows[s.next(len(rows))].Name)
		case 2:
			row.Num = one(s, -1, 0, 1, 2, 3, 4, 7, 8, 61, 64, 65, math.MaxInt, math.MinInt, row.Num+1)
		case 3:
			row.Rows = one(s, -1, 0, 1, row.Rows+1, row.Rows+2, row.Rows-1, math.MaxInt, math.MinInt)
		case 4:
			row.Args = s.spoilArgs(row.Args)
		case 5:
			row.Args = rows[s.next(len(rows))].Args
		case 6:
			rows = slices.Delete(rows, j, j+1)
		default:
			rows = slices.Insert(rows, j, rows[s.next(len(rows))])
		}
	}
	return rows
}

func (s *source) spoilArgs(args []api.Arg) []api.Arg {
	args = slices.Clone(args)
	other := one(s, arg("q", 0), arg("q", 1), arg("q", 3), par("q"), arg("c", 0), arg("c", -2), par("a"), par("b"), arg("a", 0), arg("new", 0))
	if len(args) == 0 || s.next(4) == 0 {
		return append(args, other)
	}
	j := s.next(len(args))
	switch s.next(4) {
	case 0:
		args[j].Index += one(s, -1, 1, 2, 3, -2)
	case 1:
		args[j].Name = other.Name
	case 2:
		args[j] = one(s, other, args[s.next(len(args))])
	default:
		args = slices.Delete(args, j, j+1)
	}
	return args
}

// P12.1, P12.3: rows of all sorts are told as the words have it; what comes is a circuit.
func TestRowsOfAllSorts(t *testing.T) {
	s := source(12)
	count := map[api.Errno]int{}
	ops, under := 0, 0
	for j := range 8000 {
		rows := s.program()
		if j%3 > 0 {
			rows = s.spoil(rows)
		}
		e := holds(t, rows)
		count[e]++
		if e == api.OK {
			c := flattenable(t, rows)
			ops += len(c.Ops)
			for _, op := range c.Ops {
				if op.If {
					under++
				}
			}
		}
	}
	for _, e := range []api.Errno{api.ErrLong, api.ErrGate, api.ErrSyntax, api.ErrName, api.ErrArity, api.ErrIndex, api.ErrSame, api.ErrLoop, api.ErrMany, api.ErrRoots} {
		if count[e] < 10 {
			t.Errorf("error %d came %d times alone", e, count[e])
		}
	}
	if count[api.OK] < 3000 || ops < 40000 || under < 4000 {
		t.Errorf("%d were taken, with %d operations, %d of them under conditions", count[api.OK], ops, under)
	}
}

// P12.1: a row with all sorts of fields, wherever it can stand, is told as the words have it.
func TestOneRowOfAllSorts(t *testing.T) {
	x, in := use("x", arg("q", 0)), use("x", par("a"))
	places := []func(row api.Row) []api.Row{
		func(row api.Row) []api.Row { return declared(row) },
		func(row api.Row) []api.Row { return declared(row, x) },
		func(row api.Row) []api.Row { return declared(append(again(2, row), x)...) },
		func(row api.Row) []api.Row { return declared(append(only("c", 1, row, x), x)...) },
		func(row api.Row) []api.Row { return declared(append(definition("k", "a b", row), x)...) },
		func(row api.Row) []api.Row {
			return declared(append(definition("k", "a b", again(2, row, in)...), x)...)
		},
	}
	lists := [][]api.Arg{
		nil, {arg("q", 0)}, {arg("q", 3)}, {par("q")}, {arg("c", 0)}, {par("a")}, {arg("a", 0)}, {par("k")}, {arg("q", 0), arg("q", 0)}, {arg("q", 0), arg("p", 0)}, {arg("q", 0), arg("c", 1)}, {arg("q", 0), arg("c", 2)}, {arg("c", 0), arg("q", 9)},
		{par("a"), par("b")}, {par("a"), par("a")}, {par("b"), par("z")}, {par("a"), arg("b", 1)}, {arg("q", 2), arg("p", 0), arg("q", 1)}, {par("a"), par("b"), par("a")},
	}
	s := source(3)
	for _, place := range places {
		for _, kind := range []string{"qubits", "bits", "gate", "repeat", "if", "use", "measure", "reset", "foo"} {
			for _, name := range []string{"q", "c", "f", "g", "k", "h", "cx", "ccx", "new"} {
				for _, args := range lists {
					// The number and the Rows are one of each in turn: all of both together would be too many.
					num, rows := one(&s, -1, 0, 1, 3, 4, 60, 61, 65), one(&s, 0, 0, 0, 0, 1, 2, -1)
					holds(t, place(api.Row{Kind: kind, Name: name, Args: args, Num: num, Rows: rows, Place: 88}))
				}
			}
		}
	}
	for _, place := range places {
		for _, kind := range []string{"qubits", "bits", "gate", "repeat", "if"} {
			for _, name := range []string{"q", "c", "d", "new"} {
				for _, num := range []int{-1, 0, 1, 2, 3, 4, 60, 61, 62, 64, 65} {
					for _, rows := range []int{-1, 0, 1, 2} {
						holds(t, place(api.Row{Kind: kind, Name: name, Args: []api.Arg{par("z")}, Num: num, Rows: rows, Place: 88}))
					}
				}
			}
		}
	}
}
