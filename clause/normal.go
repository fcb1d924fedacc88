package clause

import (
	"slices"

	"sorites/api"
	"sorites/subst"
	"sorites/term"
)

// isTurned: does a literal stand right?
func isTurned(l api.Lit) bool { return term.Compare(l.A, l.B) >= 0 }

func otherWayRound(l api.Lit) api.Lit { return api.Lit{Neg: l.Neg, A: l.B, B: l.A} }

func turned(l api.Lit) api.Lit {
	if isTurned(l) {
		return l
	}
	return otherWayRound(l)
}

func turnedBySides(c api.Clause) api.Clause {
	list := slices.Clone(c)
	for n, l := range list {
		list[n] = turned(l)
	}
	return list
}

// seen is a literal with its look, by which it gets its place.
type seen struct {
	lit, look api.Lit
}

// turnedByLook leaves a literal whose sides look alike as it stands.
func turnedByLook(lit, look api.Lit) seen {
	if isTurned(look) {
		return seen{lit, look}
	}
	return seen{otherWayRound(lit), otherWayRound(look)}
}

func compareLooks(a, b seen) int { return compareLits(a.look, b.look) }

// inOrder has literals turned right and in order. Their sides are still those
// of c.
func inOrder(c api.Clause) api.Clause {
	looks := Apply(allOneVariable(c), c)
	var list []seen
	for n, l := range c {
		list = append(list, turnedByLook(l, looks[n]))
	}
	slices.SortStableFunc(list, compareLooks)
	var ordered api.Clause
	for _, s := range list {
		ordered = append(ordered, s.lit)
	}
	return ordered
}

func allOneVariable(c api.Clause) subst.S {
	return bindVariables(c, func(int) int { return 0 })
}

func newNumbers(c api.Clause) subst.S {
	return bindVariables(c, func(n int) int { return n })
}

// bindVariables binds each variable of a clause to another one, whose number is
// told by how many others first stand ahead of it.
func bindVariables(c api.Clause, number func(n int) int) subst.S {
	var s subst.S
	for n, v := range term.Vars(sides(c)) {
		s = append(s, subst.Bind{V: v, T: api.T{F: -1 - number(n)}})
	}
	return s
}

// withoutDoubles goes by places that are sorted, as those of doubles need not
// stand side by side, and to hold each literal against all others would take
// long where there are many.
func withoutDoubles(c api.Clause) api.Clause {
	var places []int
	for n := range c {
		places = append(places, n)
	}
	slices.SortStableFunc(places, func(m, n int) int { return compareLits(c[m], c[n]) })
	places = slices.CompactFunc(places, func(m, n int) bool { return sameLit(c[m], c[n]) })
	slices.Sort(places)
	var rest api.Clause
	for _, n := range places {
		rest = append(rest, c[n])
	}
	return rest
}
