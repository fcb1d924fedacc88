package unify

import (
	"math"
	"reflect"
	"slices"
	"strconv"
	"strings"
	"testing"

	"sorites/api"
	"sorites/subst"
	"sorites/term"
)

func symbol(f int, list ...api.T) api.T { return api.T{F: f, L: list} }

func x(n int) api.T { return api.T{F: -1 - n} }

// loaded is a variable with parts, which count for nothing.
func loaded(n int) api.T {
	return api.T{F: -1 - n, L: []api.T{symbol(1), x(0), symbol(7, x(1))}}
}

var (
	c = symbol(1)
	d = symbol(2)
)

func f(list ...api.T) api.T { return symbol(4, list...) }

func g(t api.T) api.T { return symbol(5, t) }

func text(t api.T) string {
	if t.F < 0 {
		return "x" + strconv.Itoa(-1-t.F)
	}
	var parts []string
	for _, part := range t.L {
		parts = append(parts, text(part))
	}
	return strconv.Itoa(t.F) + "(" + strings.Join(parts, " ") + ")"
}

func texts(s subst.S) string {
	var list []string
	for _, b := range s {
		list = append(list, strconv.Itoa(b.V)+" "+text(b.T))
	}
	return strings.Join(list, ", ")
}

// filled is a term with what is bound in it: a reading of the tests' own.
func filled(t api.T, bound map[int]api.T) api.T {
	if t.F < 0 {
		if u, ok := bound[-1-t.F]; ok {
			return u
		}
		return api.T{F: t.F}
	}
	var list []api.T
	for _, part := range t.L {
		list = append(list, filled(part, bound))
	}
	return api.T{F: t.F, L: list}
}

// stands: does a variable stand in a term?
func stands(variable, t api.T) bool {
	if t.F < 0 {
		return t.F == variable.F
	}
	return slices.ContainsFunc(t.L, func(part api.T) bool { return stands(variable, part) })
}

// bind goes by the chapter's words: what is bound is put at once into all that
// was bound ahead.
func bind(bound map[int]api.T, variable, t api.T) bool {
	if stands(variable, t) {
		return false
	}
	v := -1 - variable.F
	for other := range bound {
		bound[other] = filled(bound[other], map[int]api.T{v: t})
	}
	bound[v] = t
	return true
}

// look takes one pair, with what was bound in it; it tells the pairs of parts
// that are to be taken ahead of the next one.
func look(bound map[int]api.T, a, b api.T) ([][2]api.T, bool) {
	switch {
	case text(a) == text(b):
		return nil, true
	case a.F < 0 && b.F < 0 && a.F > b.F:
		return nil, bind(bound, b, a)
	case a.F < 0:
		return nil, bind(bound, a, b)
	case b.F < 0:
		return nil, bind(bound, b, a)
	case a.F != b.F || len(a.L) != len(b.L):
		return nil, false
	}
	var parts [][2]api.T
	for n := range a.L {
		parts = append(parts, [2]api.T{a.L[n], b.L[n]})
	}
	return parts, true
}

// plain is the unifier that the chapter's words come to, step by step.
func plain(l [][2]api.T) (subst.S, bool) {
	bound := map[int]api.T{}
	for len(l) > 0 {
		parts, ok := look(bound, filled(l[0][0], bound), filled(l[0][1], bound))
		if !ok {
			return nil, false
		}
		l = slices.Concat(parts, l[1:])
	}
	var s subst.S
	for v, t := range bound {
		s = append(s, subst.Bind{V: v, T: t})
	}
	slices.SortFunc(s, func(a, b subst.Bind) int { return a.V - b.V })
	return s, true
}

// copied is a term to hold against, with all that lies in a variable's list.
func copied(t api.T) api.T {
	list := slices.Clone(t.L)
	for n := range list {
		list[n] = copied(list[n])
	}
	return api.T{F: t.F, L: list}
}

func copiedPairs(l [][2]api.T) [][2]api.T {
	list := slices.Clone(l)
	for n, pair := range list {
		list[n] = [2]api.T{copied(pair[0]), copied(pair[1])}
	}
	return list
}

func copiedBindings(s subst.S) subst.S {
	list := slices.Clone(s)
	for n := range list {
		list[n].T = copied(list[n].T)
	}
	return list
}

func unchanged(t *testing.T, now, was any) {
	t.Helper()
	if !reflect.DeepEqual(now, was) {
		t.Errorf("R4: %v became %v", was, now)
	}
}

// bare: no variable has parts.
func bare(t api.T) bool {
	return (t.F >= 0 || len(t.L) == 0) && !slices.ContainsFunc(t.L, func(u api.T) bool { return !bare(u) })
}

// memory counts how often each piece of memory is a part's, with what a list
// has to spare.
type memory map[*api.T]int

func (m memory) add(t api.T) {
	for n := range t.L {
		m.add(t.L[n])
	}
	whole := t.L[:cap(t.L)]
	for n := range whole {
		m[&whole[n]]++
	}
}

// expectNew holds that no two lists of what is told share memory, nor one of
// them with what was handed in.
func expectNew(t *testing.T, told subst.S, handedIn [][2]api.T) {
	t.Helper()
	own, other := memory{}, memory{}
	for _, b := range told {
		own.add(b.T)
		if !bare(b.T) {
			t.Errorf("P8.1: %v is told, with a variable that has parts", b)
		}
	}
	for _, pair := range handedIn {
		other.add(pair[0])
		other.add(pair[1])
	}
	for piece, count := range own {
		if count > 1 || other[piece] > 0 {
			t.Errorf("R4: what is told of %v shares memory: %v", handedIn, told)
			return
		}
	}
}

// expectPairs holds what is told of pairs against the chapter's words, and that
// it is a unifier, and solved.
func expectPairs(t *testing.T, l [][2]api.T) (subst.S, bool) {
	t.Helper()
	was := copiedPairs(l)
	s, ok := Pairs(l)
	unchanged(t, l, was)
	want, wantOk := plain(l)
	if ok != wantOk || texts(s) != texts(want) {
		t.Fatalf("P8.1: Pairs(%v) = %v, %v, want %v, %v", l, s, ok, want, wantOk)
	}
	if !ok {
		return s, ok
	}
	expectNew(t, s, l)
	for _, pair := range l {
		if a, b := s.Apply(pair[0]), s.Apply(pair[1]); !term.Same(a, b) {
			t.Fatalf("P8.2: %v is no unifier of %v", s, pair)
		}
	}
	if !Solved(s) {
		t.Fatalf("P8.2: what is told of %v is not solved: %v", l, s)
	}
	return s, ok
}

// expectTwo holds that two terms are a pair, in whatever order.
func expectTwo(t *testing.T, a, b api.T) {
	t.Helper()
	aWas, bWas := copied(a), copied(b)
	want, wantOk := expectPairs(t, [][2]api.T{{a, b}})
	s, ok := Unify(a, b)
	if ok != wantOk || texts(s) != texts(want) {
		t.Fatalf("P8.1: Unify(%v, %v) = %v, %v, want %v, %v", a, b, s, ok, want, wantOk)
	}
	expectNew(t, s, [][2]api.T{{a, b}})
	if turned, ok := Unify(b, a); ok != wantOk || texts(turned) != texts(want) {
		t.Fatalf("P8.1: Unify(%v, %v) = %v, %v, want %v, %v", b, a, turned, ok, want, wantOk)
	}
	if Can(a, b) != wantOk || Can(b, a) != wantOk {
		t.Fatalf("P8.1: Can(%v, %v) is not %v, both ways", a, b, wantOk)
	}
	unchanged(t, a, aWas)
	unchanged(t, b, bWas)
}

func TestKnownUnifiers(t *testing.T) {
	known := []struct {
		name string
		a, b api.T
		want subst.S
	}{
		{"the chapter's example", f(x(0), c), f(g(x(1)), x(1)), subst.S{{V: 0, T: g(c)}, {V: 1, T: c}}},
		{"a symbol with itself", c, c, nil},
		{"the symbol 0 with itself", api.T{}, api.T{}, nil},
		{"no parts, nil and empty", c, api.T{F: 1, L: []api.T{}}, nil},
		{"a term with itself", f(x(0), g(x(1))), f(x(0), g(x(1))), nil},
		{"a variable with itself", x(3), x(3), nil},
		{"a variable with itself, with parts", x(3), loaded(3), nil},
		{"the greater number on the left", x(1), x(0), subst.S{{V: 1, T: x(0)}}},
		{"the greater number on the right", x(0), x(1), subst.S{{V: 1, T: x(0)}}},
		{"the greater number, with parts", loaded(2), loaded(7), subst.S{{V: 7, T: x(2)}}},
		{"a variable on the left", x(0), f(x(1), c), subst.S{{V: 0, T: f(x(1), c)}}},
		{"a variable on the right", f(x(1), c), x(0), subst.S{{V: 0, T: f(x(1), c)}}},
		{"a variable with parts and a symbol", loaded(0), c, subst.S{{V: 0, T: c}}},
		{"a variable with parts in what is bound", g(x(4)), g(f(loaded(1), loaded(0))), subst.S{{V: 4, T: f(x(1), x(0))}}},
		{"what lies in a variable's list is not looked at", f(loaded(0), c), f(api.T{F: -1, L: []api.T{d}}, c), nil},
		{"a variable stands not in its own parts", x(1), f(loaded(0)), subst.S{{V: 1, T: f(x(0))}}},
		{"parts one behind the other", f(x(0), x(1), x(2)), f(c, g(x(0)), f(x(1))), subst.S{{V: 0, T: c}, {V: 1, T: g(c)}, {V: 2, T: f(g(c))}}},
		{"what is bound later is put into what was bound ahead", f(x(2), x(1), x(0)), f(g(x(1)), g(x(0)), c), subst.S{{V: 0, T: c}, {V: 1, T: g(c)}, {V: 2, T: g(g(c))}}},
		{"variables in a row, up", f(x(0), x(1), x(2)), f(x(1), x(2), x(3)), subst.S{{V: 1, T: x(0)}, {V: 2, T: x(0)}, {V: 3, T: x(0)}}},
		{"variables in a row, down", f(x(3), x(2), x(1)), f(x(2), x(1), x(0)), subst.S{{V: 1, T: x(0)}, {V: 2, T: x(0)}, {V: 3, T: x(0)}}},
		{"two rows that meet", f(x(3), x(5), x(5)), f(x(1), x(2), x(3)), subst.S{{V: 2, T: x(1)}, {V: 3, T: x(1)}, {V: 5, T: x(1)}}},
		{"a row that ends at a symbol", f(x(3), x(2), x(1), x(3)), f(x(2), x(1), x(0), c), subst.S{{V: 0, T: c}, {V: 1, T: c}, {V: 2, T: c}, {V: 3, T: c}}},
		{"a variable on both sides", f(x(0), x(0)), f(x(1), c), subst.S{{V: 0, T: c}, {V: 1, T: c}}},
		{"terms of one variable", f(x(0), x(0)), f(g(x(1)), g(c)), subst.S{{V: 0, T: g(c)}, {V: 1, T: c}}},
		{"terms of one variable, by others", f(x(0), x(1), x(0)), f(g(x(3)), g(x(2)), x(1)), subst.S{{V: 0, T: g(x(2))}, {V: 1, T: g(x(2))}, {V: 3, T: x(2)}}},
		{"the greatest numbers promised", f(x(1<<30), x(1<<30-1)), f(x(1<<30-1), c), subst.S{{V: 1<<30 - 1, T: c}, {V: 1 << 30, T: c}}},
		{"the greatest symbol", symbol(math.MaxInt, x(0)), symbol(math.MaxInt, symbol(0)), subst.S{{V: 0, T: symbol(0)}}},
	}
	for _, k := range known {
		if s, ok := Unify(k.a, k.b); !ok || texts(s) != texts(k.want) {
			t.Errorf("P8.1: %s: Unify(%v, %v) = %v, %v, want %v", k.name, k.a, k.b, s, ok, k.want)
		}
		expectTwo(t, k.a, k.b)
	}
}

func TestKnownToHaveNone(t *testing.T) {
	known := []struct {
		name string
		a, b api.T
	}{
		{"two symbols", c, d},
		{"two symbols with parts", g(x(0)), symbol(6, x(0))},
		{"two symbols with no parts and one", c, g(c)},
		{"unlike numbers of parts", f(x(0)), f(x(0), x(1))},
		{"unlike numbers of parts, none", f(), f(x(0))},
		{"unlike numbers of parts, within", g(f(x(0))), g(f(x(1), x(2)))},
		{"a variable and a term that has it", x(0), g(x(0))},
		{"a variable and a term that has it deep within", x(1), f(c, g(g(f(d, x(1)))))},
		{"a variable with parts and a term that has it", loaded(0), g(x(0))},
		{"a term that has it through an earlier binding", f(x(0), x(0)), f(x(1), g(x(1)))},
		{"a term that has it through a later binding", f(x(0), x(1)), f(g(x(1)), g(x(0)))},
		{"a term that has it through two", f(x(0), x(1), x(2)), f(g(x(1)), g(x(2)), g(x(0)))},
		{"a variable's own term within it", f(x(0), x(0)), f(g(g(x(0))), g(x(0)))},
		{"terms of one variable with unlike symbols", f(x(0), x(0)), f(c, d)},
		{"terms of one variable with unlike symbols, by others", f(x(0), x(1), x(1)), f(c, d, x(0))},
		{"the last of many parts", f(x(0), x(1), c), f(x(1), c, d)},
		{"the first of many parts", f(c, x(1), x(0)), f(d, c, x(1))},
		{"symbols at the ends", symbol(math.MaxInt), symbol(0)},
	}
	for _, k := range known {
		if s, ok := Unify(k.a, k.b); ok || len(s) != 0 {
			t.Errorf("P8.1: %s: Unify(%v, %v) = %v, %v", k.name, k.a, k.b, s, ok)
		}
		if s, ok := Pairs([][2]api.T{{x(8), x(9)}, {k.a, k.b}, {x(7), c}}); ok || len(s) != 0 {
			t.Errorf("P8.1: %s: Pairs with %v, %v = %v, %v", k.name, k.a, k.b, s, ok)
		}
		expectTwo(t, k.a, k.b)
	}
}

func TestKnownPairs(t *testing.T) {
	known := []struct {
		l    [][2]api.T
		want subst.S
		ok   bool
	}{
		{nil, nil, true},
		{[][2]api.T{}, nil, true},
		{[][2]api.T{{}}, nil, true},
		{[][2]api.T{{c, c}, {x(0), x(0)}}, nil, true},
		{[][2]api.T{{x(2), x(1)}, {x(1), x(0)}}, subst.S{{V: 1, T: x(0)}, {V: 2, T: x(0)}}, true},
		{[][2]api.T{{x(0), x(1)}, {x(0), c}}, subst.S{{V: 0, T: c}, {V: 1, T: c}}, true},
		{[][2]api.T{{x(0), g(x(1))}, {x(1), g(x(2))}, {x(2), d}}, subst.S{{V: 0, T: g(g(d))}, {V: 1, T: g(d)}, {V: 2, T: d}}, true},
		{[][2]api.T{{f(x(0), x(1)), f(x(2), x(3))}, {x(3), x(0)}}, subst.S{{V: 1, T: x(0)}, {V: 2, T: x(0)}, {V: 3, T: x(0)}}, true},
		{[][2]api.T{{x(0), c}, {x(0), d}}, nil, false},
		{[][2]api.T{{x(0), g(x(1))}, {x(1), g(x(0))}}, nil, false},
		{[][2]api.T{{x(0), g(x(0))}, {x(1), c}}, nil, false},
		{[][2]api.T{{x(1), c}, {x(0), g(x(0))}}, nil, false},
		{[][2]api.T{{c, d}, {x(1), c}}, nil, false},
		{[][2]api.T{{x(1), c}, {c, d}}, nil, false},
	}
	for _, k := range known {
		if s, ok := Pairs(k.l); ok != k.ok || texts(s) != texts(k.want) {
			t.Errorf("P8.1: Pairs(%v) = %v, %v, want %v, %v", k.l, s, ok, k.want, k.ok)
		}
		expectPairs(t, k.l)
	}
}

func TestKnownSolved(t *testing.T) {
	known := []struct {
		name string
		s    subst.S
		want bool
	}{
		{"no bindings, nil", nil, true},
		{"no bindings, empty", subst.S{}, true},
		{"a symbol", subst.S{{V: 0, T: c}}, true},
		{"another variable", subst.S{{V: 0, T: x(1)}}, true},
		{"a variable bound to itself", subst.S{{V: 0, T: x(0)}}, false},
		{"a variable bound to itself, with parts", subst.S{{V: 0, T: loaded(0)}}, false},
		{"a variable in its own term", subst.S{{V: 0, T: f(c, g(x(0)))}}, false},
		{"a variable in a later one's term", subst.S{{V: 0, T: c}, {V: 1, T: f(x(2), x(0))}}, false},
		{"a variable in an earlier one's term", subst.S{{V: 1, T: f(x(2), x(0))}, {V: 0, T: c}}, false},
		{"variables that are bound to nothing", subst.S{{V: 1, T: f(x(2), x(3))}, {V: 0, T: x(2)}}, true},
		{"two variables bound to each other", subst.S{{V: 0, T: x(1)}, {V: 1, T: x(0)}}, false},
		{"what lies in a variable's list", subst.S{{V: 0, T: loaded(5)}, {V: 1, T: f(loaded(6))}}, true},
		{"a number bound twice", subst.S{{V: 0, T: c}, {V: 0, T: d}}, true},
		{"a number bound twice, the second one to itself", subst.S{{V: 0, T: c}, {V: 0, T: x(0)}}, true},
		{"a number bound twice, the first one to itself", subst.S{{V: 0, T: x(0)}, {V: 0, T: c}}, false},
		{"a number bound twice, the second one to another that is bound", subst.S{{V: 0, T: c}, {V: 1, T: d}, {V: 0, T: g(x(1))}}, true},
		{"a number bound twice, the first one to another that is bound", subst.S{{V: 0, T: g(x(1))}, {V: 1, T: d}, {V: 0, T: c}}, false},
		{"a number bound twice in a term", subst.S{{V: 0, T: c}, {V: 0, T: d}, {V: 1, T: x(0)}}, false},
		{"numbers at the end", subst.S{{V: math.MaxInt, T: c}, {V: 0, T: api.T{F: math.MinInt}}}, false},
		{"a number at the end", subst.S{{V: math.MaxInt - 1, T: c}, {V: 0, T: api.T{F: math.MinInt}}}, true},
		{"numbers that are no variables'", subst.S{{V: -2, T: c}, {V: -5, T: f(d)}, {V: math.MinInt, T: symbol(math.MaxInt)}}, true},
	}
	for _, k := range known {
		was := copiedBindings(k.s)
		if got := Solved(k.s); got != k.want {
			t.Errorf("P8.1: %s: Solved(%v) = %v", k.name, k.s, got)
		}
		unchanged(t, k.s, was)
	}
}

// solved goes by the chapter's words, binding by binding.
func solved(s subst.S) bool {
	var seen []int
	for _, b := range s {
		if slices.Contains(seen, b.V) {
			continue
		}
		seen = append(seen, b.V)
		if slices.ContainsFunc(s, func(other subst.Bind) bool { return stands(x(other.V), b.T) }) {
			return false
		}
	}
	return true
}

// lists has every list of so many items of some.
func lists[T any](length int, of []T) [][]T {
	if length == 0 {
		return [][]T{nil}
	}
	var all [][]T
	for _, rest := range lists(length-1, of) {
		for _, item := range of {
			all = append(all, append(slices.Clone(rest), item))
		}
	}
	return all
}

func TestSolvedOfEverySmallSubstitution(t *testing.T) {
	var binds []subst.Bind
	for v := range 3 {
		for _, u := range []api.T{x(0), x(1), c, loaded(2), x(3), f(x(3), x(1)), g(loaded(0))} {
			binds = append(binds, subst.Bind{V: v, T: u})
		}
	}
	for length := range 4 {
		for _, list := range lists(length, binds) {
			s := subst.S(list)
			if got := Solved(s); got != solved(s) {
				t.Fatalf("P8.1: Solved(%v) = %v", s, got)
			}
		}
	}
}

// smallTerms has all terms of a few ends, g and f, each within another.
func smallTerms(ends ...api.T) []api.T {
	list := slices.Clone(ends)
	for _, a := range ends {
		list = append(list, g(a))
		for _, b := range ends {
			list = append(list, f(a, b), f(g(a), b), f(a, g(b)))
		}
	}
	return append(list, f(), f(x(0)), g(g(x(1))), f(x(0), x(1), x(2)), f(x(2), g(x(0)), x(1)))
}

func TestEveryPairOfSmallTerms(t *testing.T) {
	small := smallTerms(x(0), x(1), x(2), loaded(3), c, d)
	for _, a := range small {
		for _, b := range small {
			expectTwo(t, a, b)
		}
	}
}

func TestEveryListOfSmallPairs(t *testing.T) {
	var pairs [][2]api.T
	for _, pair := range lists(2, []api.T{x(0), x(1), loaded(2), c, g(x(1)), f(x(0), x(2))}) {
		pairs = append(pairs, [2]api.T{pair[0], pair[1]})
	}
	for length := range 4 {
		for _, l := range lists(length, pairs) {
			expectPairs(t, l)
		}
	}
}

// TestEveryTermOfManyVariables takes all ways in which four parts are the same
// variables or not, so that what is bound meets what was bound ahead.
func TestEveryTermOfManyVariables(t *testing.T) {
	var terms []api.T
	for _, list := range lists(4, []api.T{x(0), x(1), x(2), x(3), g(x(1))}) {
		terms = append(terms, f(list...))
	}
	for _, a := range terms {
		for n := 0; n < len(terms); n += 7 {
			expectTwo(t, a, terms[n])
		}
	}
}

// expectMostGeneral holds that each of some substitutions that is a unifier is
// the one that is told with something behind it: with itself, as what is told
// is solved. Where none is told none of them may be one.
func expectMostGeneral(t *testing.T, l [][2]api.T, others []subst.S) {
	t.Helper()
	s, ok := Pairs(l)
	for _, u := range others {
		unifies := !slices.ContainsFunc(l, func(pair [2]api.T) bool {
			return !term.Same(u.Apply(pair[0]), u.Apply(pair[1]))
		})
		if unifies && !ok {
			t.Fatalf("P8.2: of %v none is told, but %v is one", l, u)
		}
		if unifies && !subst.Alike(s.Then(u), u, []int{0, 1, 2}) {
			t.Fatalf("P8.2: of %v %v is told, which is not ahead of %v", l, s, u)
		}
	}
}

func TestMostGeneral(t *testing.T) {
	var others []subst.S
	for _, list := range lists(3, []api.T{x(0), x(1), x(5), c, g(x(1)), g(c), g(g(c)), f(c, c)}) {
		others = append(others, subst.S{{V: 0, T: list[0]}, {V: 1, T: list[1]}, {V: 2, T: list[2]}})
	}
	small := smallTerms(x(0), x(1), x(2), c)
	for _, a := range small {
		for _, b := range small {
			expectMostGeneral(t, [][2]api.T{{a, b}}, others)
		}
	}
	few := []api.T{x(0), x(1), x(2), c, g(x(1)), f(x(0), x(2))}
	for _, l := range lists(4, few) {
		expectMostGeneral(t, [][2]api.T{{l[0], l[1]}, {l[2], l[3]}}, others)
	}
}

// TestSharedMemoryHandedIn hands in one list in several places: what is told
// shares none even so.
func TestSharedMemoryHandedIn(t *testing.T) {
	list := []api.T{x(0), loaded(1), g(c)}
	expectTwo(t, f(x(5), x(6), x(5)), f(f(list...), f(list...), f(list...)))
	expectTwo(t, f(x(5), x(6), f(list...)), f(f(list[:2]...), f(list...), x(7)))
	expectTwo(t, f(list...), f(list...))
	expectPairs(t, [][2]api.T{{x(5), f(list...)}, {x(6), g(f(list...))}, {x(0), g(x(2))}, {x(7), x(5)}})
}

// TestWhatIsHandedInHasRoom holds that lists with room behind them are not
// written into there.
func TestWhatIsHandedInHasRoom(t *testing.T) {
	parts := []api.T{x(0), g(x(1)), d, loaded(4), c}
	pairs := [][2]api.T{{f(parts[:2]...), f(x(1), x(2))}, {x(3), f(parts[:1]...)}, {c, d}, {x(0), c}}
	binds := subst.S{{V: 2, T: f(parts[:2]...)}, {V: 0, T: c}, {V: 2, T: d}, {V: 7, T: x(2)}}
	partsWas, pairsWas, bindsWas := copied(f(parts...)), copiedPairs(pairs), copiedBindings(binds)
	s, ok := Pairs(pairs[:2])
	if !ok || len(s) != 3 {
		t.Errorf("P8.1: Pairs(%v) = %v, %v", pairs[:2], s, ok)
	}
	Unify(f(parts[:2]...), f(x(2), x(3)))
	Can(f(parts[:2]...), f(x(2), x(3)))
	Solved(binds[:2])
	for n := range s {
		s[n] = subst.Bind{V: 9, T: symbol(9)}
	}
	unchanged(t, f(parts...), partsWas)
	unchanged(t, pairs, pairsWas)
	unchanged(t, binds, bindsWas)
}

// TestNumbersAtTheirEnds: of variables above 2^30 nothing is promised but that
// the calls end.
func TestNumbersAtTheirEnds(t *testing.T) {
	for _, v := range []int{math.MinInt, math.MinInt + 1, -2 - 1<<30} {
		for _, w := range []int{math.MinInt, -1, 0, math.MaxInt} {
			a, b := f(api.T{F: v}, api.T{F: w}), f(api.T{F: w}, api.T{F: v})
			Unify(a, b)
			Can(a, g(b))
			Pairs([][2]api.T{{a.L[0], b}, {a, b.L[0]}})
		}
	}
}

func chain(depth int, end api.T) api.T {
	for range depth {
		end = g(end)
	}
	return end
}

// TestDeepTerms goes to the bound on parts nested in one another.
func TestDeepTerms(t *testing.T) {
	const depth = 1 << 16
	s, ok := Unify(chain(depth, x(0)), chain(depth, f(x(1), c)))
	if !ok || texts(s) != "0 "+text(f(x(1), c)) {
		t.Errorf("P8.1: of deep terms Unify tells %v, %v", s, ok)
	}
	s, ok = Unify(f(x(0), x(1)), f(x(1), chain(depth, x(2))))
	if !ok || len(s) != 2 || term.Size(s[0].T) != depth+1 || !term.Same(s[0].T, s[1].T) {
		t.Errorf("P8.1: of a deep term Unify tells %d bindings, %v", len(s), ok)
	}
	if Can(chain(depth, c), chain(depth, d)) || Can(chain(depth, c), chain(depth-1, c)) || Can(x(0), chain(depth, x(0))) {
		t.Error("P8.1: deep terms that can't become the same can")
	}
	if !Can(chain(depth, x(0)), chain(depth-1, x(1))) || Can(chain(depth, x(0)), chain(depth-1, x(0))) {
		t.Error("P8.1: Can, of terms that are not as deep")
	}
}

// TestManyVariables has rows of variables so long that to go through a whole
// row for each of them would take long.
func TestManyVariables(t *testing.T) {
	const many = 1 << 18
	var up, down [][2]api.T
	var left, right []api.T
	for n := range many {
		up = append(up, [2]api.T{x(n), x(n + 1)})
		down = append(down, [2]api.T{x(many - n), x(many - n - 1)})
		left = append(left, x(n))
		right = append(right, x(many+n))
	}
	for _, l := range [][][2]api.T{up, down, slices.Concat(down, up)} {
		s, ok := Pairs(l)
		if !ok || len(s) != many {
			t.Fatalf("P8.1: of a row of variables Pairs tells %d bindings, %v", len(s), ok)
		}
		for n, b := range s {
			if b.V != n+1 || b.T.F != -1 {
				t.Fatalf("P8.1: in a row of variables %d is bound to %v", b.V, b.T)
			}
		}
		if s, ok := Pairs(slices.Concat(l, [][2]api.T{{x(many / 2), g(x(many))}})); ok || len(s) != 0 {
			t.Fatalf("P8.1: of a row of variables in a term of its own Pairs tells %d bindings, %v", len(s), ok)
		}
	}
	s, ok := Unify(f(left...), f(right...))
	if !ok || len(s) != many || s[7].V != many+7 || s[7].T.F != -8 {
		t.Errorf("P8.1: of many variables Unify tells %d bindings, %v", len(s), ok)
	}
}

// nested has two terms that make each variable one that is within the next
// one, from 0 on.
func nested(length int) (api.T, api.T) {
	var left, right []api.T
	for n := range length {
		left = append(left, x(n+1))
		right = append(right, g(x(n)))
	}
	return f(left...), f(right...)
}

// doubled has the parts of two terms that make each variable one with the one
// ahead of it twice in it, of the numbers from first on.
func doubled(length, first int) ([]api.T, []api.T) {
	var left, right []api.T
	for n := range length {
		left = append(left, x(first+n+1))
		right = append(right, f(x(first+n), x(first+n)))
	}
	return left, right
}

// TestTermsThatGrow has terms that are far greater than those handed in, once
// all is put into them.
func TestTermsThatGrow(t *testing.T) {
	a, b := nested(1 << 10)
	s, ok := Unify(a, b)
	if !ok || len(s) != 1<<10 || term.Size(s[1<<10-1].T) != 1<<10+1 || !Solved(s) {
		t.Errorf("P8.1: of variables in one another Unify tells %d bindings, %v", len(s), ok)
	}
	const most = 18
	left, right := doubled(most, 0)
	s, ok = Unify(f(left...), f(right...))
	if !ok || len(s) != most || term.Size(s[most-1].T) != 1<<(most+1)-1 || !Solved(s) {
		t.Errorf("P8.1: of variables twice in one another Unify tells %d bindings, %v", len(s), ok)
	}
}

// TestTermsTooGreat has what would be too great to write out: whether there is
// a unifier is told even so, and at once if there is none.
func TestTermsTooGreat(t *testing.T) {
	a, b := nested(1 << 18)
	if !Can(a, b) || Can(f(a, x(0)), f(b, x(1<<18))) || Can(f(x(0), a), f(x(1<<18), b)) {
		t.Error("P8.1: Can, of variables in one another")
	}
	const many = 1000
	left, right := doubled(many, 0)
	more, within := doubled(many, 2*many)
	a, b = f(slices.Concat(left, more, []api.T{x(many)})...), f(slices.Concat(right, within, []api.T{x(3 * many)})...)
	if !Can(a, b) || Can(f(a, x(0)), f(b, x(3*many))) || Can(f(a, x(0), x(2*many)), f(b, c, d)) {
		t.Fatal("P8.1: Can, of variables twice in one another")
	}
	if s, ok := Unify(f(a, x(0), x(2*many)), f(b, c, d)); ok || len(s) != 0 {
		t.Errorf("P8.1: of variables twice in one another Unify tells %d bindings, %v", len(s), ok)
	}
}

// read makes a term of bytes: each is a head and a number of parts.
func read(b []byte, depth int) (api.T, []byte) {
	if len(b) == 0 {
		return api.T{}, nil
	}
	head := int(b[0])
	t := api.T{F: head%8 - 5}
	b = b[1:]
	if depth > 0 {
		for range head / 8 % 4 {
			var part api.T
			part, b = read(b, depth-1)
			t.L = append(t.L, part)
		}
	}
	return t, b
}

func FuzzPairs(f *testing.F) {
	f.Add([]byte{})
	f.Add([]byte{23, 4, 6, 23, 15, 3, 3})
	f.Add([]byte{4, 14, 3, 3, 14, 2, 2, 14, 1, 1, 6})
	f.Add([]byte{31, 1, 2, 3, 31, 14, 2, 14, 3, 4, 23, 4, 4, 23, 1, 15, 0})
	f.Fuzz(func(t *testing.T, b []byte) {
		if len(b) > 60 {
			t.Skip()
		}
		var l [][2]api.T
		for len(b) > 0 {
			var pair [2]api.T
			pair[0], b = read(b, 3)
			pair[1], b = read(b, 3)
			l = append(l, pair)
			expectTwo(t, pair[0], pair[1])
		}
		expectPairs(t, l)
	})
}
