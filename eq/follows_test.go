package eq

import (
	"iter"
	"math/rand/v2"
	"slices"
	"testing"

	"sorites/api"
)

// world is an interpretation: so many things, and tables of what a symbol with
// so many parts makes of theirs.
type world struct {
	things int
	tables map[[2]int][]int
}

func (w world) worth(t api.T, given []int) int {
	if t.F < 0 {
		return given[number(t)]
	}
	at := 0
	for _, part := range t.L {
		at = at*w.things + w.worth(part, given)
	}
	return w.tables[[2]int{t.F, len(t.L)}][at]
}

func (w world) holdsFor(c api.Clause, given []int) bool {
	return slices.ContainsFunc(c, func(l api.Lit) bool { return (w.worth(l.A, given) == w.worth(l.B, given)) != l.Neg })
}

// holds: whatever its variables, so many, are given.
func (w world) holds(c api.Clause, variables int) bool {
	for given := range rowsOfNumbers(w.things, variables) {
		if !w.holdsFor(c, given) {
			return false
		}
	}
	return true
}

// rowsOfNumbers has all rows of so many numbers below a limit.
func rowsOfNumbers(limit, length int) iter.Seq[[]int] {
	return func(yield func([]int) bool) {
		row := make([]int, length)
		for {
			if !yield(row) {
				return
			}
			at := 0
			for at < length && row[at] == limit-1 {
				row[at] = 0
				at++
			}
			if at == length {
				return
			}
			row[at]++
		}
	}
}

func power(n, times int) int {
	all := 1
	for range times {
		all *= n
	}
	return all
}

// everyWorld has all worlds of so many things in which symbols, told with their
// numbers of parts, may be.
func everyWorld(things int, symbols ...[2]int) []world {
	length := 0
	for _, s := range symbols {
		length += power(things, s[1])
	}
	var all []world
	for row := range rowsOfNumbers(things, length) {
		w, rest := world{things, map[[2]int][]int{}}, slices.Clone(row)
		for _, s := range symbols {
			upto := power(things, s[1])
			w.tables[s], rest = rest[:upto], rest[upto:]
		}
		all = append(all, w)
	}
	return all
}

// expectFollows holds that in each of some worlds in which a clause holds all
// that follows from it holds, too. It tells how often something did.
func expectFollows(t *testing.T, c api.Clause, variables int, worlds []world) (res, factors int) {
	t.Helper()
	byRes, byFactors := Res(c), Factor(c)
	if len(byRes)+len(byFactors) == 0 {
		return 0, 0
	}
	for _, w := range worlds {
		if !w.holds(c, variables) {
			continue
		}
		for _, d := range slices.Concat(byRes, byFactors) {
			if !w.holds(d, variables) {
				t.Fatalf("P15.2: %s follows from %s, but doesn't hold with %d things and %v", text(d), text(c), w.things, w.tables)
			}
		}
		res, factors = res+len(byRes), factors+len(byFactors)
	}
	return res, factors
}

// rows has every list of at most so many of some.
func rows[T any](most int, of []T) [][]T {
	all := [][]T{nil}
	from := 0
	for range most {
		upto := len(all)
		for _, row := range all[from:upto] {
			for _, item := range of {
				all = append(all, append(slices.Clone(row), item))
			}
		}
		from = upto
	}
	return all
}

// literals has all literals of some terms.
func literals(terms ...api.T) []api.Lit {
	var all []api.Lit
	for _, t := range terms {
		for _, u := range terms {
			all = append(all, alike(t, u), unlike(t, u))
		}
	}
	return all
}

func TestWhatFollowsInEveryWorld(t *testing.T) {
	worlds := slices.Concat(
		everyWorld(1, [2]int{0, 0}, [2]int{1, 0}, [2]int{3, 1}, [2]int{6, 0}),
		everyWorld(2, [2]int{0, 0}, [2]int{1, 0}, [2]int{3, 1}, [2]int{6, 0}),
		everyWorld(3, [2]int{0, 0}, [2]int{1, 0}, [2]int{3, 1}, [2]int{6, 0}))
	res, factors := 0, 0
	for _, c := range rows(2, append(literals(x(0), x(1), a, g(x(0)), g(x(1))), holds(p), fails(p), alike(p, x(0)), alike(g(a), x(1)))) {
		n, m := expectFollows(t, c, 2, worlds)
		res, factors = res+n, factors+m
	}
	if res < 10000 || factors < 10000 {
		t.Errorf("only %d and %d followed", res, factors)
	}
}

func TestWhatFollowsFromThreeInEveryWorld(t *testing.T) {
	worlds := slices.Concat(everyWorld(2, [2]int{1, 0}, [2]int{3, 1}), everyWorld(3, [2]int{1, 0}, [2]int{3, 1}))
	res, factors := 0, 0
	for _, c := range rows(3, literals(x(0), x(1), a, g(x(0)))) {
		n, m := expectFollows(t, c, 2, worlds)
		res, factors = res+n, factors+m
	}
	if res < 10000 || factors < 10000 {
		t.Errorf("only %d and %d followed", res, factors)
	}
}

func TestEverySmallClause(t *testing.T) {
	res, factors := 0, 0
	for _, c := range rows(3, append(literals(x(0), a, g(x(1))), alike(x(1), a), alike(g(x(0)), x(1)), unlike(g(x(0)), a), unlike(x(1), x(0)), holds(p), fails(p))) {
		expectByWords(t, "small", c)
		res, factors = res+len(Res(c)), factors+len(Factor(c))
	}
	if res < 1000 || factors < 1000 {
		t.Errorf("only %d and %d followed", res, factors)
	}
}

// maker makes terms, clauses and worlds by chance, with a seed that is told.
type maker struct{ *rand.Rand }

func newMaker(seed uint64) maker { return maker{rand.New(rand.NewPCG(15, seed))} }

// variables is how many variables a term by chance may have.
const variables = 4

// term has few symbols and variables, so that many have a unifier.
func (m maker) term(depth int) api.T {
	k := m.IntN(10)
	switch {
	case depth == 1 && k < 5, k < 3:
		return x(m.IntN(variables))
	case k == 3:
		return loaded(m.IntN(variables))
	case depth == 1, k == 4:
		return symbol(1 + m.IntN(2))
	case k < 8:
		return g(m.term(depth - 1))
	}
	return f(m.term(depth-1), m.term(depth-1))
}

// literal is an atom of one symbol now and then, one of whose sides is $true.
func (m maker) literal(neg bool) api.Lit {
	l := api.Lit{Neg: neg, A: m.term(1 + m.IntN(3)), B: m.term(1 + m.IntN(3))}
	switch m.IntN(8) {
	case 0:
		l.A, l.B = r(l.A), truth
	case 1:
		l.A, l.B = p, truth
	case 2:
		l.B = truth
	}
	return l
}

// clause has no Neg literals in half of all, so that there is something to factor.
func (m maker) clause(most int) api.Clause {
	var c api.Clause
	share := m.IntN(2)
	for range m.IntN(most + 1) {
		c = append(c, m.literal(share == 1 && m.IntN(3) == 0))
		if m.IntN(8) == 0 {
			c = append(c, c[m.IntN(len(c))])
		}
	}
	return c
}

func (m maker) table(things, parts int) []int {
	var list []int
	for range power(things, parts) {
		list = append(list, m.IntN(things))
	}
	return list
}

func (m maker) world() world {
	w := world{1 + m.IntN(3), map[[2]int][]int{}}
	for _, s := range [][2]int{{0, 0}, {1, 0}, {2, 0}, {3, 1}, {5, 2}, {6, 0}, {8, 1}} {
		w.tables[s] = m.table(w.things, s[1])
	}
	return w
}

func (m maker) worlds(count int) []world {
	var all []world
	for range count {
		all = append(all, m.world())
	}
	return all
}

func TestWhatFollowsByChance(t *testing.T) {
	m := newMaker(1)
	res, factors := 0, 0
	for range 20000 {
		c := m.clause(4)
		n, k := expectFollows(t, c, variables, m.worlds(10))
		res, factors = res+n, factors+k
	}
	if res < 5000 || factors < 5000 {
		t.Errorf("only %d and %d followed", res, factors)
	}
}

func TestClausesByChance(t *testing.T) {
	m := newMaker(2)
	res, factors := 0, 0
	for range 10000 {
		c := m.clause(5)
		expectByWords(t, "by chance", c)
		res, factors = res+len(Res(c)), factors+len(Factor(c))
	}
	if res < 1000 || factors < 1000 {
		t.Errorf("only %d and %d followed", res, factors)
	}
}

// readTerm makes a term of bytes: each is a head and whether it has parts.
func readTerm(bytes []byte, depth int) (api.T, []byte) {
	if len(bytes) == 0 {
		return api.T{}, nil
	}
	head := int(bytes[0])
	t := api.T{F: head%8 - variables}
	bytes = bytes[1:]
	if depth > 0 {
		for range head / 8 % 3 {
			var part api.T
			part, bytes = readTerm(bytes, depth-1)
			t.L = append(t.L, part)
		}
	}
	return t, bytes
}

// readClause makes a clause of bytes: ahead of the sides of each literal stands
// whether it is Neg.
func readClause(bytes []byte) api.Clause {
	var c api.Clause
	for len(bytes) > 0 && len(c) < 5 {
		l := api.Lit{Neg: bytes[0]%4 == 1}
		l.A, bytes = readTerm(bytes[1:], 3)
		l.B, bytes = readTerm(bytes, 3)
		c = append(c, l)
	}
	return c
}

func FuzzClauses(f *testing.F) {
	f.Add([]byte{})
	f.Add([]byte{0, 6, 3, 0, 7, 3})
	f.Add([]byte{0, 12, 3, 4, 0, 12, 2, 3})
	f.Add([]byte{1, 22, 2, 1, 12, 2, 3, 0, 13, 2, 5, 0, 2, 2})
	f.Fuzz(func(t *testing.T, bytes []byte) {
		if len(bytes) > 60 {
			t.Skip()
		}
		c := readClause(bytes)
		expectByWords(t, "of bytes", c)
		for things := range 2 {
			m := newMaker(uint64(len(bytes)))
			w := world{things + 1, map[[2]int][]int{}}
			for head := range variables {
				for parts := range 3 {
					w.tables[[2]int{head, parts}] = m.table(things+1, parts)
				}
			}
			expectFollows(t, c, variables, []world{w})
		}
	})
}
