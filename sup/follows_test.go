package sup

import (
	"iter"
	"math/rand/v2"
	"slices"
	"testing"

	"sorites/api"
	"sorites/clause"
)

// world is an interpretation: so many things, and tables of what a symbol with
// so many parts makes of theirs.
type world struct {
	things int
	tables map[[2]int][]int
}

func (w world) worth(t api.T, given []int) int {
	if t.F < 0 {
		return given[-1-t.F]
	}
	at := 0
	for _, part := range t.L {
		at = at*w.things + w.worth(part, given)
	}
	return w.tables[[2]int{t.F, len(t.L)}][at]
}

func (w world) holdsFor(c api.Clause, given []int) bool {
	return slices.ContainsFunc(c, func(l api.Lit) bool { return (w.worth(l.A, given) == w.worth(l.B, given)) != l.Neg })
}

// holds: whatever its variables, so many, are given.
func (w world) holds(c api.Clause, variables int) bool {
	for given := range rowsOfNumbers(w.things, variables) {
		if !w.holdsFor(c, given) {
			return false
		}
	}
	return true
}

// rowsOfNumbers has all rows of so many numbers below a limit.
func rowsOfNumbers(limit, length int) iter.Seq[[]int] {
	return func(yield func([]int) bool) {
		row := make([]int, length)
		for {
			if !yield(row) {
				return
			}
			at := 0
			for at < length && row[at] == limit-1 {
				row[at] = 0
				at++
			}
			if at == length {
				return
			}
			row[at]++
		}
	}
}

func power(n, times int) int {
	all := 1
	for range times {
		all *= n
	}
	return all
}

// everyWorld has all worlds of so many things in which symbols, told with their
// numbers of parts, may be.
func everyWorld(things int, symbols ...[2]int) []world {
	length := 0
	for _, s := range symbols {
		length += power(things, s[1])
	}
	var all []world
	for row := range rowsOfNumbers(things, length) {
		w, rest := world{things, map[[2]int][]int{}}, slices.Clone(row)
		for _, s := range symbols {
			upto := power(things, s[1])
			w.tables[s], rest = rest[:upto], rest[upto:]
		}
		all = append(all, w)
	}
	return all
}

// expectAmong holds that all of one list stands in another one, in the same
// order: what is told by fewer ways is told by these ways there, too.
func expectAmong(t *testing.T, c, d api.Clause, into, free []api.Clause) {
	t.Helper()
	for _, told := range into {
		at := slices.IndexFunc(free, func(other api.Clause) bool { return clause.Same(told, other) })
		if at < 0 {
			t.Fatalf("P16.3: Into(%s; %s) tells %s, Free doesn't", text(c), text(d), text(told))
		}
		free = free[at+1:]
	}
}

// judge tells in which of some worlds a clause holds, and keeps it, as many
// clauses come up often.
type judge struct {
	worlds []world
	kept   map[string][]bool
}

func newJudge(worlds ...world) judge { return judge{worlds, map[string][]bool{}} }

// holds asks of the clause made normal, which has the least numbers for its
// variables, so that there is the least to give them.
func (j judge) holds(c api.Clause) []bool {
	c = clause.Norm(c)
	name := string(clause.Put(nil, c))
	if _, ok := j.kept[name]; !ok {
		var list []bool
		for _, w := range j.worlds {
			list = append(list, w.holds(c, clause.Top(c)+1))
		}
		j.kept[name] = list
	}
	return j.kept[name]
}

// worldsOf are the places of the worlds in which two clauses hold.
func (j judge) worldsOf(c, d api.Clause) []int {
	first, second := j.holds(c), j.holds(d)
	var both []int
	for n := range j.worlds {
		if first[n] && second[n] {
			both = append(both, n)
		}
	}
	return both
}

// expectFollows holds that all that follows from two clauses holds in each world
// in which both do. It tells how often something did.
func expectFollows(t *testing.T, c, d api.Clause, j judge) (into, free int) {
	t.Helper()
	looked, all := Into(c, d), Free(c, d)
	expectAmong(t, c, d, looked, all)
	both := j.worldsOf(c, d)
	if len(both) == 0 {
		return 0, 0
	}
	for _, told := range slices.Concat(looked, all, Both(d, c)) {
		holds := j.holds(told)
		for _, n := range both {
			if !holds[n] {
				w := j.worlds[n]
				t.Fatalf("P16.3: %s follows from %s and %s, but doesn't hold with %d things and %v", text(told), text(c), text(d), w.things, w.tables)
			}
		}
	}
	return len(both) * len(looked), len(both) * len(all)
}

// rows has every list of at most so many of some.
func rows[T any](most int, of []T) [][]T {
	all := [][]T{nil}
	from := 0
	for range most {
		upto := len(all)
		for _, row := range all[from:upto] {
			for _, item := range of {
				all = append(all, append(slices.Clone(row), item))
			}
		}
		from = upto
	}
	return all
}

// literals has all literals of some terms.
func literals(terms ...api.T) []api.Lit {
	var all []api.Lit
	for _, t := range terms {
		for _, u := range terms {
			all = append(all, alike(t, u), unlike(t, u))
		}
	}
	return all
}

func expectMany(t *testing.T, least int, counts ...int) {
	t.Helper()
	if slices.Min(counts) < least {
		t.Errorf("only %d followed", counts)
	}
}

func TestWhatFollowsInEveryWorld(t *testing.T) {
	symbols := [][2]int{{0, 0}, {1, 0}, {3, 1}}
	j := newJudge(slices.Concat(everyWorld(1, symbols...), everyWorld(2, symbols...), everyWorld(3, symbols...))...)
	into, free := 0, 0
	list := rows(2, append(literals(x(0), a, g(x(0))), alike(x(0), x(1)), alike(g(x(1)), a), unlike(g(g(x(0))), x(1)), holds(g(a))))
	for n, c := range list {
		for m, d := range list {
			// Of the pairs of two literals each there are so many that a fifth will do.
			if len(c)+len(d) == 4 && (n+m)%5 > 0 {
				continue
			}
			k, l := expectFollows(t, c, d, j)
			into, free = into+k, free+l
		}
	}
	expectMany(t, 10000, into, free)
}

func TestEverySmallPair(t *testing.T) {
	into, free := 0, 0
	list := rows(2, []api.Lit{
		alike(x(0), a), unlike(a, x(0)), alike(x(0), x(1)), alike(a, b), alike(g(x(0)), a), unlike(b, g(x(1))),
		alike(g(x(1)), x(0)), alike(f(x(0), x(1)), f(x(1), x(0))), holds(r(g(a))), fails(r(x(1))), holds(p),
	})
	for _, c := range list {
		for _, d := range list {
			k, l := expectByWords(t, "small", c, d)
			into, free = into+k, free+l
		}
	}
	expectMany(t, 10000, into, free)
}

// maker makes terms, clauses and worlds by chance, with a seed that is told.
type maker struct{ *rand.Rand }

func newMaker(seed uint64) maker { return maker{rand.New(rand.NewPCG(16, seed))} }

// variables is how many variables a term by chance may have.
const variables = 3

// term has few symbols and variables, so that many have a unifier.
func (m maker) term(depth int) api.T {
	k := m.IntN(10)
	switch {
	case depth == 1 && k < 5, k < 2:
		return x(m.IntN(variables))
	case k == 2:
		return loaded(m.IntN(variables))
	case depth == 1, k == 4:
		return symbol(1 + m.IntN(2))
	case k < 8:
		return g(m.term(depth - 1))
	}
	return f(m.term(depth-1), m.term(depth-1))
}

// literal is an atom of one symbol now and then, one of whose sides is $true.
func (m maker) literal(neg bool) api.Lit {
	l := api.Lit{Neg: neg, A: m.term(1 + m.IntN(3)), B: m.term(1 + m.IntN(3))}
	switch m.IntN(8) {
	case 0:
		l.A, l.B = r(l.A), truth
	case 1:
		l.A, l.B = p, truth
	case 2:
		l.B = truth
	}
	return l
}

// clause has no Neg literals in half of all, so that something follows from it.
func (m maker) clause(most int) api.Clause {
	var c api.Clause
	share := m.IntN(2)
	for range m.IntN(most + 1) {
		c = append(c, m.literal(share == 1 && m.IntN(3) == 0))
		if m.IntN(8) == 0 {
			c = append(c, c[m.IntN(len(c))])
		}
	}
	return c
}

func (m maker) table(things, parts int) []int {
	var list []int
	for range power(things, parts) {
		list = append(list, m.IntN(things))
	}
	return list
}

func (m maker) world() world {
	w := world{1 + m.IntN(3), map[[2]int][]int{}}
	for _, s := range [][2]int{{0, 0}, {1, 0}, {2, 0}, {3, 1}, {5, 2}, {6, 0}, {8, 1}} {
		w.tables[s] = m.table(w.things, s[1])
	}
	return w
}

func (m maker) worlds(count int) []world {
	var all []world
	for range count {
		all = append(all, m.world())
	}
	return all
}

func TestWhatFollowsByChance(t *testing.T) {
	m := newMaker(1)
	into, free := 0, 0
	for range 20000 {
		k, l := expectFollows(t, m.clause(3), m.clause(3), newJudge(m.worlds(10)...))
		into, free = into+k, free+l
	}
	expectMany(t, 5000, into, free)
}

func TestClausesByChance(t *testing.T) {
	m := newMaker(2)
	into, free := 0, 0
	for range 10000 {
		k, l := expectByWords(t, "by chance", m.clause(4), m.clause(4))
		into, free = into+k, free+l
	}
	expectMany(t, 10000, into, free)
}

// readTerm makes a term of bytes: each is a head and whether it has parts.
func readTerm(bytes []byte, depth int) (api.T, []byte) {
	if len(bytes) == 0 {
		return api.T{}, nil
	}
	head := int(bytes[0])
	t := api.T{F: head%8 - variables}
	bytes = bytes[1:]
	if depth > 0 {
		for range head / 8 % 3 {
			var part api.T
			part, bytes = readTerm(bytes, depth-1)
			t.L = append(t.L, part)
		}
	}
	return t, bytes
}

// readClause makes a clause of bytes: ahead of the sides of each literal stands
// whether it is Neg.
func readClause(bytes []byte) api.Clause {
	var c api.Clause
	for len(bytes) > 0 && len(c) < 3 {
		l := api.Lit{Neg: bytes[0]%4 == 1}
		l.A, bytes = readTerm(bytes[1:], 3)
		l.B, bytes = readTerm(bytes, 3)
		c = append(c, l)
	}
	return c
}

func FuzzClauses(f *testing.F) {
	f.Add([]byte{}, []byte{})
	f.Add([]byte{0, 12, 2, 2}, []byte{0, 15, 12, 4, 3})
	f.Add([]byte{0, 22, 2, 1, 22, 1, 2}, []byte{1, 15, 22, 5, 4, 3, 0, 2, 1})
	f.Fuzz(func(t *testing.T, first, second []byte) {
		if len(first) > 30 || len(second) > 30 {
			t.Skip()
		}
		c, d := readClause(first), readClause(second)
		expectByWords(t, "of bytes", c, d)
		m := newMaker(uint64(len(first)))
		var worlds []world
		for things := range 2 {
			w := world{things + 1, map[[2]int][]int{}}
			for head := range 8 - variables {
				for parts := range 3 {
					w.tables[[2]int{head, parts}] = m.table(things+1, parts)
				}
			}
			worlds = append(worlds, w)
		}
		expectFollows(t, c, d, newJudge(worlds...))
	})
}
