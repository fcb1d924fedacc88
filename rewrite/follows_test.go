package rewrite

import (
	"math/rand/v2"
	"slices"
	"testing"

	"sorites/api"
	"sorites/clause"
	"sorites/kbo"
	"sorites/order"
	"sorites/subst"
	"sorites/term"
)

// termsOf are those of all literals: by them clauses are held against each
// other, as literals are.
func termsOf(c api.Clause) []api.T {
	var all []api.T
	for _, l := range c {
		all = append(all, order.Terms(l)...)
	}
	return all
}

// expectLess holds that of a clause one side alone became another one, which is
// less, and with it the clause.
func expectLess(t *testing.T, was, now api.Clause) {
	t.Helper()
	if len(now) != len(was) {
		t.Fatalf("P17.3: %s became %s", text(was), text(now))
	}
	changed := 0
	for n := range was {
		for _, second := range []bool{false, true} {
			before, after := side(was[n], second), side(now[n], second)
			if term.Same(before, after) {
				continue
			}
			changed++
			if kbo.Compare(before, after) != 1 || !order.Greater(was[n], now[n]) || was[n].Neg != now[n].Neg {
				t.Fatalf("P17.3: %s is not greater than %s", termText(before), termText(after))
			}
		}
	}
	if changed != 1 || !order.Multi(termsOf(was), termsOf(now)) {
		t.Fatalf("P17.3: %s is not made less: %s, in %d sides", text(was), text(now), changed)
	}
}

// expectEnd goes use by use, and holds that All goes the same way, to where
// there is no use. It tells how many there were.
func expectEnd(t *testing.T, l []Rule, c api.Clause) int {
	t.Helper()
	end, used := All(l, c)
	now := c
	for n, id := range used {
		then, by, ok := Once(l, now)
		if !ok || by != id {
			t.Fatalf("P17.3: All(%q, %s) uses %d, Once %d at the place %d", ruleTexts(l), text(c), used, by, n)
		}
		expectLess(t, now, then)
		now = then
	}
	if !clause.Same(now, end) || len(steps(l, end)) > 0 {
		t.Fatalf("P17.3: All(%q, %s) ends with %s", ruleTexts(l), text(c), text(end))
	}
	if _, _, ok := Once(l, end); ok {
		t.Fatalf("P17.3: behind All there is a use in %s", text(end))
	}
	return len(used)
}

// expectPutIn holds that what is put into a clause is rewritten at least as
// much: at each place, by each rule, to what it is without it, with it put in;
// and all along the way to the end.
func expectPutIn(t *testing.T, l []Rule, c api.Clause, s subst.S) int {
	t.Helper()
	uses := 0
	for now, ok := c, true; ok; now, _, ok = Once(l, now) {
		put := clause.Apply(s, now)
		for _, k := range steps(l, now) {
			uses++
			part, _ := term.At(side(put[k.literal], k.second), k.place)
			simpler, _ := term.At(side(clause.Apply(s, k.then)[k.literal], k.second), k.place)
			got, id, ok := Term([]Rule{k.rule}, part)
			if !ok || id != k.rule.Id || !term.Same(got, simpler) {
				t.Fatalf("P17.3: %s is used in %s, but not so in %s", ruleTexts([]Rule{k.rule}), text(now), text(put))
			}
		}
		if _, _, is := Once(l, now); is {
			if _, _, still := Once(l, put); !still {
				t.Fatalf("P17.3: %s is rewritten, %s is not, by %q", text(now), text(put), ruleTexts(l))
			}
		}
	}
	return uses
}

func expectMany(t *testing.T, least int, counts ...int) {
	t.Helper()
	if slices.Min(counts) < least {
		t.Errorf("there were only %d", counts)
	}
}

// TestEverySmallClause has all rules of small sides, two at a time, and clauses
// of such sides.
func TestEverySmallClause(t *testing.T) {
	small := []api.T{x(0), loaded(1), a, b, g(x(0)), g(b), f(x(0), x(0)), f(x(0), x(1)), f(x(1), a), f(b, x(0)), g(g(x(1)))}
	var l []Rule
	for n, s := range small {
		for m, u := range small {
			unit := of(alike(s, u))
			if expectOf(t, "small", 100*n+m, unit) {
				rule, _ := Of(100*n+m, unit)
				l = append(l, rule)
			}
			expectOf(t, "small", n, of(unlike(s, u)))
			expectOf(t, "small", n, of(alike(s, u), alike(s, u)))
		}
	}
	uses := 0
	for n, one := range l {
		for m, two := range l {
			for k := (n + m) % 19; k < len(small)*len(small); k += 19 {
				s, u := small[k/len(small)], small[k%len(small)]
				c := of(api.Lit{Neg: k%2 == 0, A: f(s, g(u)), B: u}, holds(r(s)))
				uses += expectByWords(t, "small", []Rule{one, two}, c)
			}
		}
	}
	expectMany(t, 20000, uses)
}

// maker makes terms, rules and clauses by chance, with a seed that is told.
type maker struct{ *rand.Rand }

func newMaker(seed uint64) maker { return maker{rand.New(rand.NewPCG(17, seed))} }

// variables is how many variables a term by chance may have.
const variables = 3

// term has few symbols and variables, so that many are matched.
func (m maker) term(depth int) api.T {
	k := m.IntN(10)
	switch {
	case depth == 1 && k < 4, k == 0:
		return x(m.IntN(variables))
	case k == 1:
		return loaded(m.IntN(variables))
	case depth == 1, k == 2:
		return symbol(1 + m.IntN(2))
	case k == 3:
		return h(m.term(depth - 1))
	case k < 7:
		return g(m.term(depth - 1))
	}
	return f(m.term(depth-1), m.term(depth-1))
}

// rules are of units by chance; now and then one of them is there twice.
func (m maker) rules(most int) []Rule {
	var l []Rule
	for count := m.IntN(most + 1); len(l) < count; {
		unit := of(alike(m.term(1+m.IntN(3)), m.term(1+m.IntN(3))))
		if rule, ok := Of(m.IntN(5), unit); ok {
			l = append(l, rule)
		}
		if len(l) > 0 && m.IntN(8) == 0 {
			l = append(l, l[m.IntN(len(l))])
		}
	}
	return l
}

func (m maker) clause(most int) api.Clause {
	var c api.Clause
	for range m.IntN(most + 1) {
		l := api.Lit{Neg: m.IntN(2) == 0, A: m.term(1 + m.IntN(5)), B: m.term(1 + m.IntN(5))}
		switch m.IntN(6) {
		case 0:
			l.A, l.B = r(l.A), truth
		case 1:
			l.B = truth
		}
		c = append(c, l)
		if m.IntN(8) == 0 {
			c = append(c, c[m.IntN(len(c))])
		}
	}
	return c
}

func (m maker) substitution() subst.S {
	var s subst.S
	for v := range variables {
		if m.IntN(4) > 0 {
			s = append(s, subst.Bind{V: v, T: m.term(1 + m.IntN(3))})
		}
	}
	return s
}

func TestClausesByChance(t *testing.T) {
	m := newMaker(1)
	uses := 0
	for range 25000 {
		uses += expectByWords(t, "by chance", m.rules(6), m.clause(3))
	}
	expectMany(t, 20000, uses)
}

func TestAllEndsByChance(t *testing.T) {
	m := newMaker(2)
	uses := 0
	for range 50000 {
		uses += expectEnd(t, m.rules(8), m.clause(3))
	}
	expectMany(t, 50000, uses)
}

func TestPutInByChance(t *testing.T) {
	m := newMaker(3)
	uses := 0
	for range 50000 {
		uses += expectPutIn(t, m.rules(5), m.clause(2), m.substitution())
	}
	expectMany(t, 50000, uses)
}

// TestLongRuns has rules that make nothing smaller, so that there are many uses.
func TestLongRuns(t *testing.T) {
	l := rules(t, "h(g(X)) = g(h(X))", "f(g(X),Y) = f(X,g(Y))", "f(f(X,Y),Z) = f(X,f(Y,Z))", "f(b,X) = f(a,X)", "h(a) = g(a)")
	m := newMaker(4)
	uses := 0
	for range 3000 {
		uses += expectEnd(t, l, of(alike(m.term(6), m.term(6))))
	}
	expectMany(t, 10000, uses)
}

// ofBytes makes a term of bytes: each is a head and whether it has parts.
func ofBytes(bytes []byte, depth int) (api.T, []byte) {
	if len(bytes) == 0 {
		return api.T{}, nil
	}
	head := int(bytes[0])
	t := api.T{F: head%8 - variables}
	bytes = bytes[1:]
	if depth > 0 {
		for range head / 8 % 3 {
			var part api.T
			part, bytes = ofBytes(bytes, depth-1)
			t.L = append(t.L, part)
		}
	}
	return t, bytes
}

// readClause makes a clause of bytes: ahead of the sides of each literal stands
// whether it is Neg.
func readClause(bytes []byte) api.Clause {
	var c api.Clause
	for len(bytes) > 0 && len(c) < 4 {
		l := api.Lit{Neg: bytes[0]%4 == 1}
		l.A, bytes = ofBytes(bytes[1:], 3)
		l.B, bytes = ofBytes(bytes, 3)
		c = append(c, l)
	}
	return c
}

func FuzzClauses(f *testing.F) {
	f.Add([]byte{}, []byte{})
	f.Add([]byte{0, 12, 2, 2}, []byte{0, 15, 12, 12, 4, 3})
	f.Add([]byte{0, 22, 2, 2, 2, 0, 5, 4}, []byte{1, 22, 5, 4, 12, 5, 0, 2, 22, 1, 1})
	f.Fuzz(func(t *testing.T, first, second []byte) {
		if len(first) > 30 || len(second) > 30 {
			t.Skip()
		}
		var l []Rule
		for n, lit := range readClause(first) {
			expectOf(t, "of bytes", n, of(lit))
			if rule, ok := Of(n, of(lit)); ok {
				l = append(l, rule)
			}
		}
		c := readClause(second)
		expectOf(t, "of bytes", 1, c)
		expectByWords(t, "of bytes", l, c)
		expectEnd(t, l, c)
		expectPutIn(t, l, c, newMaker(uint64(len(first))).substitution())
	})
}
