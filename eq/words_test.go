package eq

import (
	"math"
	"reflect"
	"slices"
	"testing"

	"sorites/api"
	"sorites/kbo"
	"sorites/order"
	"sorites/parse"
	"sorites/print"
)

// symbols stands ahead of each source, so that a, b, g, h, f, p, q, r are the
// symbols 1 to 8 in each of them.
const symbols = "a = b | g(a) = h(f(a,a)) | p | q | r(a)."

// read is the clause of a source without its point.
func read(t *testing.T, src string) api.Clause {
	t.Helper()
	_, list, err := parse.Parse(symbols + src + ".")
	if err != api.OK || len(list) != 2 {
		t.Fatalf("%q is no clause's source", src)
	}
	return list[1]
}

var named, _, _ = parse.Parse(symbols)

func text(c api.Clause) string { return print.Clause(named, c) }

func texts(list []api.Clause) []string {
	var all []string
	for _, c := range list {
		all = append(all, text(c))
	}
	return all
}

// bare: no variable has parts.
func bare(t api.T) bool {
	return (t.F >= 0 || len(t.L) == 0) && !slices.ContainsFunc(t.L, func(u api.T) bool { return !bare(u) })
}

func bareLit(l api.Lit) bool { return bare(l.A) && bare(l.B) }

// What follows goes by the chapters' words, step by step.

func number(variable api.T) int { return -1 - variable.F }

// bindings are what variables are bound to, by their numbers.
type bindings map[int]api.T

func (s bindings) put(t api.T) api.T {
	if t.F < 0 {
		if u, ok := s[number(t)]; ok {
			return u
		}
		return api.T{F: t.F}
	}
	u := api.T{F: t.F}
	for _, part := range t.L {
		u.L = append(u.L, s.put(part))
	}
	return u
}

func (s bindings) putLit(l api.Lit) api.Lit {
	return api.Lit{Neg: l.Neg, A: s.put(l.A), B: s.put(l.B)}
}

func (s bindings) putAll(c api.Clause) api.Clause {
	var list api.Clause
	for _, l := range c {
		list = append(list, s.putLit(l))
	}
	return list
}

func same(t, u api.T) bool {
	return t.F == u.F && (t.F < 0 || slices.EqualFunc(t.L, u.L, same))
}

func standsIn(variable, t api.T) bool {
	if t.F < 0 {
		return t.F == variable.F
	}
	return slices.ContainsFunc(t.L, func(part api.T) bool { return standsIn(variable, part) })
}

func (s bindings) bind(variable, t api.T) bool {
	if standsIn(variable, t) {
		return false
	}
	for n, u := range s {
		s[n] = bindings{number(variable): t}.put(u)
	}
	s[number(variable)] = t
	return true
}

// unify tells whether two terms can become the same behind what was bound so far.
func (s bindings) unify(t, u api.T) bool {
	t, u = s.put(t), s.put(u)
	switch {
	case same(t, u):
		return true
	case t.F < 0 && (u.F >= 0 || number(t) > number(u)):
		return s.bind(t, u)
	case u.F < 0:
		return s.bind(u, t)
	}
	if t.F != u.F || len(t.L) != len(u.L) {
		return false
	}
	for n := range t.L {
		if !s.unify(t.L[n], u.L[n]) {
			return false
		}
	}
	return true
}

func withoutByWords(c api.Clause, i int) api.Clause {
	var list api.Clause
	for n, l := range c {
		if n != i {
			list = append(list, l)
		}
	}
	return bindings{}.putAll(list)
}

func resByWords(c api.Clause) []api.Clause {
	var list []api.Clause
	for n, l := range c {
		s := bindings{}
		if l.Neg && slices.Contains(order.Looked(c), n) && s.unify(l.A, l.B) {
			list = append(list, s.putAll(withoutByWords(c, n)))
		}
	}
	return list
}

// way is a literal's sides as they stand, or turned about.
func way(l api.Lit, turned int) (api.T, api.T) {
	if turned == 1 {
		return l.B, l.A
	}
	return l.A, l.B
}

// factorsByWords counts the ways: the lowest numbers are those of u, v, then
// those of s, t, of the other literal, and of the one that is looked at.
func factorsByWords(c api.Clause) []api.Clause {
	looked := order.Looked(c)
	var list []api.Clause
	for n := range 4 * len(c) * len(c) {
		i, j := n/4/len(c), n/4%len(c)
		if i == j || c[i].Neg || c[j].Neg || !slices.Contains(looked, i) {
			continue
		}
		s, t := way(c[i], n/2%2)
		u, v := way(c[j], n%2)
		by := bindings{}
		if !by.unify(s, u) {
			continue
		}
		if found := kbo.Compare(by.put(s), by.put(t)); found == -1 || found == 0 {
			continue
		}
		list = append(list, by.putAll(append(withoutByWords(c, i), api.Lit{Neg: true, A: t, B: v})))
	}
	return list
}

// image has all of what is handed in to hold against, with what lies in a
// variable's list, and in the room behind a list.
type image struct {
	head  int
	items int
	all   []image
}

func imageOfTerm(t api.T) image {
	i := image{t.F, len(t.L), nil}
	for _, part := range t.L[:cap(t.L)] {
		i.all = append(i.all, imageOfTerm(part))
	}
	return i
}

func imageOf(c api.Clause) image {
	i := image{0, len(c), nil}
	for _, l := range c[:cap(c)] {
		sign := 0
		if l.Neg {
			sign = 1
		}
		i.all = append(i.all, image{sign, 2, []image{imageOfTerm(l.A), imageOfTerm(l.B)}})
	}
	return i
}

// memory counts how often each piece of memory is a literal's or a part's, with
// what a list has to spare.
type memory map[any]int

func addPieces[I any](m memory, list []I) {
	whole := list[:cap(list)]
	for n := range whole {
		m[&whole[n]]++
	}
}

func (m memory) addTerm(t api.T) {
	addPieces(m, t.L)
	for _, part := range t.L {
		m.addTerm(part)
	}
}

func (m memory) add(c api.Clause) {
	addPieces(m, c)
	for _, l := range c {
		m.addTerm(l.A)
		m.addTerm(l.B)
	}
}

// spoil changes all that was told, and what lies behind it.
func spoil(list []api.Clause) {
	wrong := symbol(99, x(99))
	for _, c := range list {
		for n := range c {
			spoilTerm(c[n].A)
			spoilTerm(c[n].B)
		}
		for n := range c[:cap(c)] {
			c[:cap(c)][n] = api.Lit{Neg: true, A: wrong, B: wrong}
		}
	}
	for n := range list[:cap(list)] {
		list[:cap(list)][n] = of(fails(wrong))
	}
}

func spoilTerm(t api.T) {
	for n := range t.L {
		spoilTerm(t.L[n])
	}
	for n := range t.L[:cap(t.L)] {
		t.L[:cap(t.L)][n] = symbol(99)
	}
}

// expectNew holds that no two lists of what is told share memory, nor one of
// them with the clause, and that a change of it changes nothing of the clause.
func expectNew(t *testing.T, call string, list []api.Clause, c api.Clause, was image) {
	t.Helper()
	own, other := memory{}, memory{}
	for _, told := range list {
		own.add(told)
		if slices.ContainsFunc(told, func(l api.Lit) bool { return !bareLit(l) }) {
			t.Fatalf("P15.1: %s of %v tells parts of variables: %v", call, c, told)
		}
	}
	addPieces(own, list)
	other.add(c)
	for piece, count := range own {
		if count > 1 || other[piece] > 0 {
			t.Fatalf("R4: what %s of %v tells shares memory", call, c)
		}
	}
	spoil(list)
	if now := imageOf(c); !reflect.DeepEqual(now, was) {
		t.Fatalf("R4: %s: %v became %v", call, was, now)
	}
}

func expectRes(t *testing.T, name string, c api.Clause, want []string) {
	t.Helper()
	was := imageOf(c)
	list := Res(c)
	if got := texts(list); !slices.Equal(got, want) {
		t.Fatalf("P15.1: %s: Res(%s) = %q, want %q", name, text(c), got, want)
	}
	expectNew(t, "Res", list, c, was)
}

func expectFactors(t *testing.T, name string, c api.Clause, want []string) {
	t.Helper()
	was := imageOf(c)
	list := Factor(c)
	if got := texts(list); !slices.Equal(got, want) {
		t.Fatalf("P15.1: %s: Factor(%s) = %q, want %q", name, text(c), got, want)
	}
	expectNew(t, "Factor", list, c, was)
}

func expectWithout(t *testing.T, name string, c api.Clause, i int, want string) {
	t.Helper()
	was := imageOf(c)
	told := Without(c, i)
	if got := text(told); got != want {
		t.Fatalf("P15.1: %s: Without(%s, %d) = %s, want %s", name, text(c), i, got, want)
	}
	expectNew(t, "Without", []api.Clause{told}, c, was)
}

// beyond are places that a clause has none at.
func beyond(c api.Clause) []int {
	return []int{-1, -2, math.MinInt, len(c), len(c) + 1, cap(c), cap(c) + 1, math.MaxInt}
}

// expectByWords holds all that is told of a clause against the chapter's words.
func expectByWords(t *testing.T, name string, c api.Clause) {
	t.Helper()
	expectRes(t, name, c, texts(resByWords(c)))
	expectFactors(t, name, c, texts(factorsByWords(c)))
	for n := range c {
		expectWithout(t, name, c, n, text(withoutByWords(c, n)))
	}
	for _, n := range beyond(c) {
		expectWithout(t, name, c, n, text(c))
	}
}
