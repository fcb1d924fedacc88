package order

import (
	"math/rand/v2"
	"slices"
	"testing"

	"sorites/api"
	"sorites/subst"
)

// maker makes terms, literals, clauses and bindings by chance, with a seed that
// is told.
type maker struct{ *rand.Rand }

func newMaker(seed uint64) maker { return maker{rand.New(rand.NewPCG(14, seed))} }

// term has few symbols and variables, so that many are the same or less; now
// and then a symbol has another number of parts than elsewhere.
func (m maker) term(depth int) api.T {
	k := m.IntN(10)
	switch {
	case depth == 1 && k < 5, k < 2:
		return x(m.IntN(3))
	case k == 2:
		return loaded(m.IntN(3))
	case depth == 1, k == 3:
		return symbol(m.IntN(3))
	case k < 6:
		return g(m.term(depth - 1))
	case k == 6:
		return h(m.term(depth - 1))
	case k == 7:
		return f(m.term(depth - 1))
	}
	return f(m.term(depth-1), m.term(depth-1))
}

func (m maker) list(most int) []api.T {
	var terms []api.T
	for range m.IntN(most + 1) {
		terms = append(terms, m.term(1+m.IntN(3)))
	}
	return terms
}

func (m maker) literal() api.Lit {
	return api.Lit{Neg: m.IntN(3) == 0, A: m.term(1 + m.IntN(3)), B: m.term(1 + m.IntN(3))}
}

func (m maker) clause(most int) api.Clause {
	var c api.Clause
	for range m.IntN(most + 1) {
		c = append(c, m.literal())
	}
	return c
}

func (m maker) bindings() subst.S {
	var s subst.S
	for v := range 3 {
		if m.IntN(4) > 0 {
			s = append(s, subst.Bind{V: v, T: m.term(1 + m.IntN(3))})
		}
	}
	return s
}

func putAll(s subst.S, terms []api.T) []api.T {
	var all []api.T
	for _, t := range terms {
		all = append(all, s.Apply(t))
	}
	return all
}

func putLit(s subst.S, l api.Lit) api.Lit {
	return api.Lit{Neg: l.Neg, A: s.Apply(l.A), B: s.Apply(l.B)}
}

// expectStrict holds that over a pool nothing is greater than itself, and no
// two are greater than each other; and that what is greater than one that is
// greater than a third one is greater than that too. It tells how often.
func expectStrict[T any](t *testing.T, pool []T, greater func(a, b T) bool) int {
	t.Helper()
	above := make([][]bool, len(pool))
	for n, a := range pool {
		above[n] = make([]bool, len(pool))
		for m, b := range pool {
			above[n][m] = greater(a, b)
		}
	}
	triples := 0
	for n := range pool {
		if above[n][n] {
			t.Fatalf("P14.3: %v is greater than itself", pool[n])
		}
		for m := range pool {
			if !above[n][m] {
				continue
			}
			if above[m][n] {
				t.Fatalf("P14.3: %v and %v are greater than each other", pool[n], pool[m])
			}
			for k := range pool {
				if above[m][k] && !above[n][k] {
					t.Fatalf("P14.3: %v is greater than %v, that one than %v, but not the first one than the last", pool[n], pool[m], pool[k])
				}
				if above[m][k] {
					triples++
				}
			}
		}
	}
	return triples
}

func TestListsAreStrictAndTransitive(t *testing.T) {
	m := newMaker(1)
	triples := 0
	for range 30 {
		var pool [][]api.T
		for range 80 {
			pool = append(pool, m.list(4))
		}
		triples += expectStrict(t, pool, Multi)
	}
	if triples < 10000 {
		t.Errorf("only %d lists were greater than one that was greater than a third one", triples)
	}
	expectStrict(t, rows(2, list(x(0), x(1), c, d, g(x(0)), g(c), f(x(0), x(1)))), Multi)
}

func TestLiteralsAreStrictAndTransitive(t *testing.T) {
	m := newMaker(2)
	triples := 0
	for range 30 {
		var pool []api.Lit
		for range 80 {
			pool = append(pool, m.literal())
		}
		triples += expectStrict(t, pool, Greater)
	}
	if triples < 10000 {
		t.Errorf("only %d literals were greater than one that was greater than a third one", triples)
	}
	expectStrict(t, literals(x(0), x(1), truth, c, g(x(0)), g(c), f(x(0), x(1)), f(x(1), x(0))), Greater)
}

func TestListsStayWhateverIsPutIn(t *testing.T) {
	m := newMaker(3)
	stayed := 0
	for range 30000 {
		a, b := m.list(4), m.list(4)
		if !Multi(a, b) {
			continue
		}
		for range 4 {
			s := m.bindings()
			if u, v := putAll(s, a), putAll(s, b); !Multi(u, v) || Multi(v, u) {
				t.Fatalf("P14.3: %v is greater than %v, but not with %v put in", a, b, s)
			}
			stayed++
		}
	}
	if stayed < 10000 {
		t.Errorf("only %d lists were greater", stayed)
	}
}

func TestLiteralsStayWhateverIsPutIn(t *testing.T) {
	m := newMaker(4)
	stayed := 0
	for range 30000 {
		a, b := m.literal(), m.literal()
		if !Greater(a, b) {
			continue
		}
		for range 4 {
			s := m.bindings()
			if u, v := putLit(s, a), putLit(s, b); !Greater(u, v) || Greater(v, u) {
				t.Fatalf("P14.3: %v is greater than %v, but not with %v put in", a, b, s)
			}
			stayed++
		}
	}
	if stayed < 10000 {
		t.Errorf("only %d literals were greater", stayed)
	}
}

// TestWhatIsMadeSame puts in what makes terms of both lists the same, so that
// more is cut than was ahead of it.
func TestWhatIsMadeSame(t *testing.T) {
	for _, k := range []struct {
		a, b []api.T
		s    subst.S
	}{
		{list(g(x(0)), g(x(1))), list(x(0), x(1)), subst.S{{V: 0, T: g(x(1))}}},
		{list(f(x(0), x(1)), x(2)), list(x(0), x(1)), subst.S{{V: 2, T: x(0)}}},
		{list(f(x(0), x(1)), g(x(1))), list(g(x(0)), x(1), x(1)), subst.S{{V: 0, T: x(1)}}},
		{list(g(x(0)), c, x(1)), list(x(0), c, c), subst.S{{V: 0, T: c}, {V: 1, T: c}}},
		{list(h(x(0)), x(1)), list(g(x(0)), g(x(0))), subst.S{{V: 1, T: g(x(0))}}},
	} {
		if !Multi(k.a, k.b) || !Multi(putAll(k.s, k.a), putAll(k.s, k.b)) {
			t.Errorf("P14.3: Multi(%v, %v) does not stay with %v put in", k.a, k.b, k.s)
		}
	}
}

func TestSomeIsLookedAt(t *testing.T) {
	m := newMaker(5)
	for range 20000 {
		c := m.clause(5)
		places := Looked(c)
		if len(c) > 0 && len(places) == 0 || len(c) == 0 && len(places) > 0 {
			t.Fatalf("P14.3: Looked(%v) = %v", c, places)
		}
		for n, place := range places {
			if place < 0 || place >= len(c) || n > 0 && places[n-1] >= place {
				t.Fatalf("P14.2: Looked(%v) = %v", c, places)
			}
		}
	}
}

func TestClausesByChance(t *testing.T) {
	m := newMaker(6)
	for range 6000 {
		expectByWords(t, m.clause(5))
	}
}

func TestListsByChance(t *testing.T) {
	m := newMaker(7)
	for range 20000 {
		a, b := m.list(5), m.list(5)
		expectMulti(t, "by chance", a, b, multiByWords(a, b), multiByWords(b, a))
	}
}

// TestOrderOfAListCountsForNothing mixes lists, and lays the same terms beside
// both.
func TestOrderOfAListCountsForNothing(t *testing.T) {
	m := newMaker(8)
	for range 10000 {
		a, b, beside := m.list(5), m.list(5), m.list(3)
		there := Multi(a, b)
		u, v := slices.Concat(a, beside), slices.Concat(beside, b)
		m.Shuffle(len(u), func(i, j int) { u[i], u[j] = u[j], u[i] })
		m.Shuffle(len(v), func(i, j int) { v[i], v[j] = v[j], v[i] })
		if Multi(u, v) != there {
			t.Fatalf("P14.1: Multi(%v, %v) = %v, but not that of %v and %v", a, b, there, u, v)
		}
	}
}

// read makes a term of bytes: each is a head and a number of parts.
func read(b []byte, depth int) (api.T, []byte) {
	if len(b) == 0 {
		return api.T{}, nil
	}
	head := int(b[0])
	t := api.T{F: head%8 - 3}
	b = b[1:]
	if depth > 0 {
		for range head / 8 % 4 {
			var part api.T
			part, b = read(b, depth-1)
			t.L = append(t.L, part)
		}
	}
	return t, b
}

// readClause makes a clause of bytes: ahead of the sides of each literal stands
// whether it is Neg.
func readClause(b []byte) api.Clause {
	var c api.Clause
	for len(b) > 0 && len(c) < 6 {
		l := api.Lit{Neg: b[0]%4 == 1}
		l.A, b = read(b[1:], 4)
		l.B, b = read(b, 4)
		c = append(c, l)
	}
	return c
}

func FuzzClauses(f *testing.F) {
	f.Add([]byte{})
	f.Add([]byte{0, 6, 3, 1, 7, 3})
	f.Add([]byte{0, 14, 2, 4, 0, 2, 4, 0, 14, 1, 5})
	f.Add([]byte{1, 22, 2, 1, 14, 2, 1, 14, 1, 22, 1, 2, 0, 2, 2})
	f.Fuzz(func(t *testing.T, b []byte) {
		if len(b) > 80 {
			t.Skip()
		}
		c := readClause(b)
		expectByWords(t, c)
		expectStrict(t, c, Greater)
		if len(c) == 0 {
			return
		}
		s := subst.S{{V: 0, T: c[0].A}, {V: 1, T: c[0].B}}
		for _, l := range c {
			for _, other := range c {
				if Greater(l, other) && !Greater(putLit(s, l), putLit(s, other)) {
					t.Fatalf("P14.3: %v is greater than %v, but not with %v put in", l, other, s)
				}
			}
		}
	})
}
