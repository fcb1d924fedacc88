package subsume

import (
	"math/rand/v2"
	"slices"
	"testing"

	"sorites/api"
	"sorites/clause"
	"sorites/subst"
)

// expectSubsumes holds that a clause subsumes another one, by bindings of all
// its variables, which make of each literal one of the other clause's.
func expectSubsumes(t *testing.T, why string, c, d api.Clause) {
	t.Helper()
	s, ok := By(c, d)
	if !ok || !Is(c, d) {
		t.Fatalf("P18.2: %s: %s doesn't subsume %s", why, text(c), text(d))
	}
	var bound []int
	for _, b := range s {
		bound = append(bound, b.V)
	}
	slices.Sort(bound)
	if !slices.Equal(bound, variablesOf(c)) || !eachIsOne(clause.Apply(s, c), d) {
		t.Fatalf("P18.2: %s: %q doesn't make of %s literals of %s", why, texts(s), text(c), text(d))
	}
	if Strictly(d, c) || Strictly(c, d) == Is(d, c) {
		t.Fatalf("P18.2: %s: Strictly of %s and %s", why, text(c), text(d))
	}
}

func expectMany(t *testing.T, least int, counts ...int) {
	t.Helper()
	if slices.Min(counts) < least {
		t.Errorf("there were only %d", counts)
	}
}

// smallClauses has all of one and two literals out of a few.
func smallClauses() []api.Clause {
	literals := of(holds(r(x(0))), holds(r(x(1))), holds(r(a)), holds(r(g(x(0)))), unlike(truth, r(x(0))), unlike(r(b), truth),
		alike(x(0), x(1)), alike(g(x(1)), x(0)), alike(x(0), g(x(0))), alike(a, g(b)), alike(x(0), loaded(0)), alike(a, b), unlike(b, a))
	all := []api.Clause{nil}
	for _, one := range literals {
		all = append(all, of(one))
		for _, two := range literals {
			all = append(all, of(one, two))
		}
	}
	return all
}

// TestEverySmallClause has each of them against each, and three by three: over
// two it goes on.
func TestEverySmallClause(t *testing.T) {
	all := smallClauses()
	is := make([][]int, len(all))
	pairs, over := 0, 0
	for n, c := range all {
		for m, d := range all {
			if expectBy(t, "small", c, d) {
				is[n] = append(is[n], m)
				pairs++
			}
		}
		if !slices.Equal(Those(c, all), is[n]) || !slices.Contains(is[n], n) {
			t.Fatalf("P18.1: Those(%s, ..) = %d, want %d", text(c), Those(c, all), is[n])
		}
	}
	for n, first := range is {
		for _, m := range first {
			for _, k := range is[m] {
				over++
				if _, ok := slices.BinarySearch(first, k); !ok {
					t.Fatalf("P18.2: %s subsumes %s, this %s, but the first not the last", text(all[n]), text(all[m]), text(all[k]))
				}
			}
		}
	}
	expectMany(t, 2000, pairs, over)
}

// maker makes terms and clauses by chance, with a seed that is told.
type maker struct{ *rand.Rand }

func newMaker(seed uint64) maker { return maker{rand.New(rand.NewPCG(18, seed))} }

// variables is how many variables a term by chance may have.
const variables = 4

// term has few symbols and variables, so that many are matched.
func (m maker) term(depth int) api.T {
	k := m.IntN(10)
	switch {
	case depth == 1 && k < 5, k == 0:
		return x(m.IntN(variables))
	case k == 1:
		return loaded(m.IntN(variables))
	case depth == 1, k == 2:
		return symbol(1 + m.IntN(2))
	case k < 6:
		return g(m.term(depth - 1))
	}
	return f(m.term(depth-1), m.term(depth-1))
}

func (m maker) literal() api.Lit {
	l := api.Lit{Neg: m.IntN(4) == 0, A: m.term(1 + m.IntN(3)), B: m.term(1 + m.IntN(2))}
	switch m.IntN(5) {
	case 0:
		l.A, l.B = r(l.A), truth
	case 1:
		l.A, l.B = r(l.A, l.B), truth
	}
	return l
}

// clause has a literal twice, now and then.
func (m maker) clause(most int) api.Clause {
	var c api.Clause
	for count := m.IntN(most + 1); len(c) < count; {
		c = append(c, m.literal())
		if m.IntN(8) == 0 && len(c) < count {
			c = append(c, c[m.IntN(len(c))])
		}
	}
	return c
}

func (m maker) substitution() subst.S {
	var s subst.S
	for v := range variables {
		if m.IntN(4) > 0 {
			s = append(s, subst.Bind{V: v, T: m.term(1 + m.IntN(3))})
		}
	}
	return s
}

// mixed has the literals of a clause in any order, some of them turned about.
func (m maker) mixed(c api.Clause) api.Clause {
	var list api.Clause
	for _, n := range m.Perm(len(c)) {
		if m.IntN(2) == 0 {
			list = append(list, c[n])
		} else {
			list = append(list, turned(c[n]))
		}
	}
	return list
}

// more has up to so many literals more.
func (m maker) more(c api.Clause, most int) api.Clause {
	return m.mixed(append(slices.Clip(c), m.clause(most)...))
}

// into is a clause that comes of another one by a substitution, by literals
// more, or by both; now and then almost.
func (m maker) into(c api.Clause, most int) api.Clause {
	d := m.more(clause.Apply(m.substitution(), c), most)
	if len(d) > 0 && m.IntN(3) == 0 {
		d = slices.Delete(d, 0, 1)
	}
	return d
}

func TestClausesByChance(t *testing.T) {
	m := newMaker(1)
	yes, no, other := 0, 0, 0
	for range 12000 {
		c := m.clause(3)
		if expectBy(t, "by chance", c, m.clause(3)) {
			other++
		}
		if expectBy(t, "by chance", c, m.into(c, 2)) {
			yes++
		} else {
			no++
		}
	}
	expectMany(t, 1000, yes, no, other)
}

// TestWaysByChance has clauses of like literals, of which most ways end.
func TestWaysByChance(t *testing.T) {
	m := newMaker(2)
	yes, no := 0, 0
	for range 6000 {
		var c, d api.Clause
		for range 2 + m.IntN(6) {
			c = append(c, holds(r(x(m.IntN(6)), x(m.IntN(6)))))
		}
		for len(d) < len(c)+m.IntN(2) {
			d = append(d, holds(r(symbol(1+m.IntN(4)), symbol(1+m.IntN(4)))))
		}
		if expectBy(t, "ways", c, d) {
			yes++
		} else {
			no++
		}
	}
	expectMany(t, 200, yes, no)
}

// TestEdgesByChance has literals whose sides are variables and symbols, so that
// both ways round fit.
func TestEdgesByChance(t *testing.T) {
	m := newMaker(3)
	yes, no := 0, 0
	for range 2500 {
		var c, d api.Clause
		for range 2 + m.IntN(2) {
			c = append(c, alike(x(m.IntN(4)), x(m.IntN(4))))
		}
		c = append(c, holds(r(x(m.IntN(4)))))
		for len(d) < len(c) {
			d = append(d, alike(symbol(1+m.IntN(4)), symbol(1+m.IntN(4))))
		}
		d[m.IntN(len(d))] = holds(r(symbol(1 + m.IntN(4))))
		if expectBy(t, "edges", c, d) {
			yes++
		} else {
			no++
		}
	}
	expectMany(t, 200, yes, no)
}

func TestAmongByChance(t *testing.T) {
	m := newMaker(4)
	some, none := 0, 0
	for range 4000 {
		var l []api.Clause
		c := m.clause(2)
		for range m.IntN(5) {
			l = append(l, m.clause(3))
		}
		if m.IntN(2) == 0 {
			l = append(l, m.into(c, 1))
		}
		expectAmong(t, "by chance", l, c)
		if Some(l, c) >= 0 && len(Those(c, l)) > 0 {
			some++
		} else {
			none++
		}
	}
	expectMany(t, 300, some, none)
}

func TestSelfByChance(t *testing.T) {
	m := newMaker(5)
	for range 20000 {
		c := m.clause(6)
		expectSubsumes(t, "itself", c, c)
		expectSubsumes(t, "itself, mixed", c, m.mixed(c))
		if Strictly(c, c) {
			t.Fatalf("P18.2: Strictly(%s, itself)", text(c))
		}
	}
}

func TestInstancesByChance(t *testing.T) {
	m := newMaker(6)
	for range 20000 {
		c := m.clause(5)
		put := clause.Apply(m.substitution(), c)
		expectSubsumes(t, "what a substitution makes of it", c, put)
		expectSubsumes(t, "what a substitution makes of it, mixed", c, m.mixed(put))
		expectSubsumes(t, "other numbers", c, clause.Rename(c, m.IntN(5)))
	}
}

func TestMoreLiteralsByChance(t *testing.T) {
	m := newMaker(7)
	for range 20000 {
		c := m.clause(5)
		expectSubsumes(t, "more literals", c, append(slices.Clip(c), m.clause(4)...))
		expectSubsumes(t, "more literals ahead", c, append(m.clause(4), c...))
		expectSubsumes(t, "more literals, mixed", c, m.more(c, 4))
		expectSubsumes(t, "both", c, m.more(clause.Apply(m.substitution(), c), 4))
	}
}

// TestOverTwoByChance has clauses of which the second comes of the first, and
// the third of the second, and others, of which one may subsume the other one.
func TestOverTwoByChance(t *testing.T) {
	m := newMaker(8)
	goes := 0
	for range 30000 {
		c := m.clause(3)
		d := m.into(c, 2)
		e := m.into(d, 2)
		if m.IntN(3) == 0 {
			c, d, e = m.clause(2), m.clause(2), m.clause(2)
		}
		if !Is(c, d) || !Is(d, e) {
			continue
		}
		goes++
		expectSubsumes(t, "over "+text(d), c, e)
		if (Strictly(c, d) || Strictly(d, e)) != Strictly(c, e) {
			t.Fatalf("P18.2: Strictly over two: %s, %s, %s", text(c), text(d), text(e))
		}
	}
	expectMany(t, 10000, goes)
}

// ofBytes makes a term of bytes: each is a head and whether it has parts.
func ofBytes(bytes []byte, depth int) (api.T, []byte) {
	if len(bytes) == 0 {
		return api.T{}, nil
	}
	head := int(bytes[0])
	t := api.T{F: head%8 - variables}
	bytes = bytes[1:]
	if depth > 0 {
		for range head / 8 % 3 {
			var part api.T
			part, bytes = ofBytes(bytes, depth-1)
			t.L = append(t.L, part)
		}
	}
	return t, bytes
}

// readClause makes a clause of bytes: ahead of the sides of each literal stands
// whether it is Neg.
func readClause(bytes []byte) api.Clause {
	var c api.Clause
	for len(bytes) > 0 && len(c) < 3 {
		l := api.Lit{Neg: bytes[0]%4 == 1}
		l.A, bytes = ofBytes(bytes[1:], 2)
		l.B, bytes = ofBytes(bytes, 2)
		c = append(c, l)
	}
	return c
}

func FuzzClauses(f *testing.F) {
	f.Add([]byte{}, []byte{})
	f.Add([]byte{0, 12, 2, 2}, []byte{0, 15, 12, 12, 4, 3})
	f.Add([]byte{0, 3, 2, 0, 14, 3, 2}, []byte{0, 5, 6, 0, 7, 14, 6, 5})
	f.Fuzz(func(t *testing.T, first, second []byte) {
		if len(first) > 30 || len(second) > 30 {
			t.Skip()
		}
		c, d := readClause(first), readClause(second)
		expectBy(t, "of bytes", c, d)
		expectBy(t, "of bytes", d, c)
		expectAmong(t, "of bytes", []api.Clause{d, c}, c)
		m := newMaker(uint64(len(first)))
		for _, one := range []api.Clause{c, d} {
			expectSubsumes(t, "itself", one, one)
			expectSubsumes(t, "both", one, m.more(clause.Apply(m.substitution(), one), 2))
		}
		put := m.more(clause.Apply(m.substitution(), d), 1)
		if Is(c, d) {
			expectSubsumes(t, "over two", c, put)
		}
	})
}
