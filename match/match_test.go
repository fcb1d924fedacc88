package match

import (
	"math"
	"reflect"
	"slices"
	"strconv"
	"strings"
	"testing"

	"sorites/api"
	"sorites/subst"
	"sorites/term"
)

func symbol(f int, list ...api.T) api.T { return api.T{F: f, L: list} }

func x(n int) api.T { return api.T{F: -1 - n} }

// loaded is a variable with parts, which count for nothing.
func loaded(n int) api.T {
	return api.T{F: -1 - n, L: []api.T{symbol(1), x(0), symbol(7, x(1))}}
}

var (
	c = symbol(1)
	d = symbol(2)
)

func f(list ...api.T) api.T { return symbol(4, list...) }

func g(t api.T) api.T { return symbol(5, t) }

func text(t api.T) string {
	if t.F < 0 {
		return "x" + strconv.Itoa(-1-t.F)
	}
	var parts []string
	for _, part := range t.L {
		parts = append(parts, text(part))
	}
	return strconv.Itoa(t.F) + "(" + strings.Join(parts, " ") + ")"
}

func texts(s subst.S) string {
	var list []string
	for _, b := range s {
		list = append(list, strconv.Itoa(b.V)+" "+text(b.T))
	}
	return strings.Join(list, ", ")
}

// bound is what counts of a number: a reading of the tests' own.
func bound(s subst.S, v int) (api.T, bool) {
	for _, b := range s {
		if b.V == v {
			return b.T, true
		}
	}
	return api.T{}, false
}

// filled is a term with what is bound in it, all at once.
func filled(t api.T, s subst.S) api.T {
	if t.F < 0 {
		if u, ok := bound(s, -1-t.F); ok {
			return u
		}
		return api.T{F: t.F}
	}
	var list []api.T
	for _, part := range t.L {
		list = append(list, filled(part, s))
	}
	return api.T{F: t.F, L: list}
}

// firstPlace is where a variable first stands in a term.
func firstPlace(t api.T, v int) []int {
	for _, place := range term.Places(t) {
		if u, _ := term.At(t, place); u.F == -1-v {
			return place
		}
	}
	return nil
}

// plain goes by the chapter's words: what stands in the term where a variable
// first stands in the pattern is the only term that may be added for it; then
// the pattern must become the term.
func plain(s subst.S, pattern, t api.T) (subst.S, bool) {
	all := slices.Clone(s)
	for _, v := range term.Vars(pattern) {
		if _, ok := bound(s, v); ok {
			continue
		}
		u, ok := term.At(t, firstPlace(pattern, v))
		if !ok {
			return nil, false
		}
		all = append(all, subst.Bind{V: v, T: u})
	}
	if text(filled(pattern, all)) != text(t) {
		return nil, false
	}
	return all, true
}

func plainParts(pattern, t api.T) [][]int {
	var places [][]int
	for _, place := range term.Places(t) {
		u, _ := term.At(t, place)
		if _, ok := plain(nil, pattern, u); ok && u.F >= 0 {
			places = append(places, place)
		}
	}
	return places
}

// copied is a term to hold against, with all that lies in a variable's list.
func copied(t api.T) api.T {
	list := slices.Clone(t.L)
	for n := range list {
		list[n] = copied(list[n])
	}
	return api.T{F: t.F, L: list}
}

func copiedBindings(s subst.S) subst.S {
	list := slices.Clone(s)
	for n := range list {
		list[n].T = copied(list[n].T)
	}
	return list
}

func unchanged(t *testing.T, now, was any) {
	t.Helper()
	if !reflect.DeepEqual(now, was) {
		t.Errorf("R4: %v became %v", was, now)
	}
}

// bare: no variable has parts.
func bare(t api.T) bool {
	return (t.F >= 0 || len(t.L) == 0) && !slices.ContainsFunc(t.L, func(u api.T) bool { return !bare(u) })
}

// memory counts how often each piece of memory is a part's, with what a list
// has to spare.
type memory map[*api.T]int

func (m memory) add(t api.T) {
	for n := range t.L {
		m.add(t.L[n])
	}
	whole := t.L[:cap(t.L)]
	for n := range whole {
		m[&whole[n]]++
	}
}

func (m memory) addAll(s subst.S) {
	for _, b := range s {
		m.add(b.T)
	}
}

// sameStart: do two lists of bindings begin in one piece of memory?
func sameStart(a, b subst.S) bool {
	return cap(a) > 0 && cap(b) > 0 && &a[:1][0] == &b[:1][0]
}

// expectNew holds that no two lists of what is told share memory, nor one of
// them with what was handed in.
func expectNew(t *testing.T, told, s subst.S, pattern, u api.T) {
	t.Helper()
	if sameStart(told, s) {
		t.Errorf("R4: what is told of %v, %v and %v is what was handed in", s, pattern, u)
	}
	own, other := memory{}, memory{}
	own.addAll(told)
	other.addAll(s)
	other.add(pattern)
	other.add(u)
	for piece, count := range own {
		if count > 1 || other[piece] > 0 {
			t.Errorf("R4: what is told of %v, %v and %v shares memory: %v", s, pattern, u, told)
			return
		}
	}
	for _, b := range told {
		if !bare(b.T) {
			t.Errorf("P9.1: %v is told, with a variable that has parts", b)
		}
	}
}

// expectMatch holds what is told of a pattern and a term, behind bindings,
// against the chapter's words.
func expectMatch(t *testing.T, s subst.S, pattern, u api.T) (subst.S, bool) {
	t.Helper()
	sWas, patternWas, uWas := copiedBindings(s), copied(pattern), copied(u)
	got, ok := Match(s, pattern, u)
	want, wantOk := plain(s, pattern, u)
	if ok != wantOk || texts(got) != texts(want) {
		t.Fatalf("P9.1: Match(%v, %v, %v) = %v, %v, want %v, %v", s, pattern, u, got, ok, want, wantOk)
	}
	if ok && !term.Same(got.Apply(pattern), u) {
		t.Fatalf("P9.1: %v makes of %v not %v", got, pattern, u)
	}
	if len(s) == 0 && Is(pattern, u) != wantOk {
		t.Fatalf("P9.1: Is(%v, %v) is not %v", pattern, u, wantOk)
	}
	expectNew(t, got, s, pattern, u)
	unchanged(t, s, sWas)
	unchanged(t, pattern, patternWas)
	unchanged(t, u, uWas)
	return got, ok
}

func samePlaces(a, b [][]int) bool { return slices.EqualFunc(a, b, slices.Equal) }

// expectNewPlaces holds that no two places share memory, with what they have to
// spare.
func expectNewPlaces(t *testing.T, places [][]int) {
	t.Helper()
	seen := map[*int]bool{}
	for _, place := range places {
		whole := place[:cap(place)]
		for n := range whole {
			if seen[&whole[n]] {
				t.Errorf("R4: places share memory: %v", places)
				return
			}
			seen[&whole[n]] = true
		}
	}
}

// expectParts holds the places that are told against the chapter's words.
func expectParts(t *testing.T, pattern, u api.T) [][]int {
	t.Helper()
	patternWas, uWas := copied(pattern), copied(u)
	got := Parts(pattern, u)
	if want := plainParts(pattern, u); !samePlaces(got, want) {
		t.Fatalf("P9.2: Parts(%v, %v) = %v, want %v", pattern, u, got, want)
	}
	expectNewPlaces(t, got)
	unchanged(t, pattern, patternWas)
	unchanged(t, u, uWas)
	return got
}

func TestKnownMatches(t *testing.T) {
	known := []struct {
		name       string
		s          subst.S
		pattern, t api.T
		want       subst.S
	}{
		{"the chapter's example", nil, f(x(0), x(0)), f(c, c), subst.S{{V: 0, T: c}}},
		{"a symbol with itself", nil, c, c, nil},
		{"a symbol with itself, behind bindings", subst.S{{V: 1, T: d}, {V: 0, T: c}}, c, c, subst.S{{V: 1, T: d}, {V: 0, T: c}}},
		{"the symbol 0 with itself", subst.S{}, api.T{}, api.T{}, nil},
		{"no parts, nil and empty", nil, c, api.T{F: 1, L: []api.T{}}, nil},
		{"a variable and a symbol", nil, x(0), c, subst.S{{V: 0, T: c}}},
		{"a variable and a term with variables", nil, x(2), f(x(2), g(x(0))), subst.S{{V: 2, T: f(x(2), g(x(0)))}}},
		{"a variable and another one", nil, x(0), x(1), subst.S{{V: 0, T: x(1)}}},
		{"a variable and one of its number", nil, x(0), x(0), subst.S{{V: 0, T: x(0)}}},
		{"a variable in a term of its own", nil, x(0), g(x(0)), subst.S{{V: 0, T: g(x(0))}}},
		{"a variable that is bound", subst.S{{V: 0, T: g(c)}}, x(0), g(c), subst.S{{V: 0, T: g(c)}}},
		{"a variable that is bound to a variable", subst.S{{V: 0, T: x(1)}}, x(0), x(1), subst.S{{V: 0, T: x(1)}}},
		{"a variable that is bound to a term with it", subst.S{{V: 0, T: g(x(0))}}, x(0), g(x(0)), subst.S{{V: 0, T: g(x(0))}}},
		{"a variable that is bound to itself", subst.S{{V: 0, T: x(0)}}, f(x(0), x(0)), f(x(0), x(0)), subst.S{{V: 0, T: x(0)}}},
		{"what was bound is not put into what was bound", subst.S{{V: 0, T: x(1)}, {V: 1, T: c}}, f(x(0), x(1)), f(x(1), c), subst.S{{V: 0, T: x(1)}, {V: 1, T: c}}},
		{"what is bound is not put into what was bound", nil, f(x(0), x(1), x(0)), f(x(1), c, x(1)), subst.S{{V: 0, T: x(1)}, {V: 1, T: c}}},
		{"what is bound is not put into what was bound ahead", subst.S{{V: 0, T: g(x(1))}}, f(x(1), x(0)), f(c, g(x(1))), subst.S{{V: 0, T: g(x(1))}, {V: 1, T: c}}},
		{"two variables in each other's place", nil, f(x(0), x(1), x(0)), f(x(1), x(0), x(1)), subst.S{{V: 0, T: x(1)}, {V: 1, T: x(0)}}},
		{"two variables and one term", nil, f(x(0), x(1)), f(g(c), g(c)), subst.S{{V: 0, T: g(c)}, {V: 1, T: g(c)}}},
		{"a variable thrice", nil, f(x(3), g(x(3)), x(3)), f(g(x(5)), g(g(x(5))), g(x(5))), subst.S{{V: 3, T: g(x(5))}}},
		{"in the order in which they first stand", nil, f(x(7), g(f(x(3), x(7))), x(5), x(3), x(0)), f(c, g(f(d, c)), g(d), d, x(9)), subst.S{{V: 7, T: c}, {V: 3, T: d}, {V: 5, T: g(d)}, {V: 0, T: x(9)}}},
		{"behind what was there", subst.S{{V: 9, T: c}, {V: 1, T: d}}, f(x(2), x(1), x(0)), f(c, d, c), subst.S{{V: 9, T: c}, {V: 1, T: d}, {V: 2, T: c}, {V: 0, T: c}}},
		{"a number twice ahead: the first one counts", subst.S{{V: 0, T: c}, {V: 0, T: d}}, f(x(0), x(1)), f(c, d), subst.S{{V: 0, T: c}, {V: 0, T: d}, {V: 1, T: d}}},
		{"a number twice ahead, first to itself", subst.S{{V: 0, T: x(0)}, {V: 0, T: d}}, x(0), x(0), subst.S{{V: 0, T: x(0)}, {V: 0, T: d}}},
		{"a number thrice ahead, in no order", subst.S{{V: 4, T: c}, {V: 0, T: d}, {V: 4, T: d}, {V: 4, T: x(4)}}, f(x(4), x(0)), f(c, d), subst.S{{V: 4, T: c}, {V: 0, T: d}, {V: 4, T: d}, {V: 4, T: x(4)}}},
		{"a variable with parts as the pattern", nil, loaded(0), c, subst.S{{V: 0, T: c}}},
		{"a variable with parts in the pattern", nil, f(loaded(0), x(0)), f(d, d), subst.S{{V: 0, T: d}}},
		{"a variable with parts as the term", nil, x(0), loaded(2), subst.S{{V: 0, T: x(2)}}},
		{"a variable with and without parts in the term", nil, f(x(0), x(0), x(0)), f(loaded(1), x(1), api.T{F: -2, L: []api.T{d}}), subst.S{{V: 0, T: x(1)}}},
		{"a variable with parts within what is bound", nil, g(x(0)), g(f(loaded(1), c)), subst.S{{V: 0, T: f(x(1), c)}}},
		{"a variable with parts, bound ahead", subst.S{{V: 0, T: g(loaded(1))}}, x(0), g(x(1)), subst.S{{V: 0, T: g(x(1))}}},
		{"what lies in a variable's list binds nothing", nil, f(loaded(4), c), f(d, c), subst.S{{V: 4, T: d}}},
		{"symbols at the end", nil, symbol(math.MaxInt, x(0)), symbol(math.MaxInt, symbol(0)), subst.S{{V: 0, T: symbol(0)}}},
		{"variables at the end", nil, f(api.T{F: math.MinInt}, x(0)), f(c, api.T{F: math.MinInt}), subst.S{{V: math.MaxInt, T: c}, {V: 0, T: api.T{F: math.MinInt}}}},
		{"numbers that are no variables', ahead", subst.S{{V: -1, T: c}, {V: math.MinInt, T: d}}, x(0), d, subst.S{{V: -1, T: c}, {V: math.MinInt, T: d}, {V: 0, T: d}}},
	}
	for _, k := range known {
		if s, ok := Match(k.s, k.pattern, k.t); !ok || texts(s) != texts(k.want) {
			t.Errorf("P9.1: %s: Match(%v, %v, %v) = %v, %v, want %v", k.name, k.s, k.pattern, k.t, s, ok, k.want)
		}
		expectMatch(t, k.s, k.pattern, k.t)
		if len(k.s) == 0 && !Is(k.pattern, k.t) {
			t.Errorf("P9.1: %s: Is(%v, %v) is false", k.name, k.pattern, k.t)
		}
	}
}

func TestKnownNotToMatch(t *testing.T) {
	known := []struct {
		name       string
		s          subst.S
		pattern, t api.T
	}{
		{"the chapter's example", nil, f(x(0), x(0)), f(c, d)},
		{"two symbols", nil, c, d},
		{"two symbols with parts", nil, g(x(0)), symbol(6, x(0))},
		{"a symbol and a variable", nil, c, x(0)},
		{"a symbol and a variable with parts", nil, symbol(4, x(5), x(6), x(7)), loaded(0)},
		{"a symbol with parts and a variable", nil, g(x(0)), x(0)},
		{"a symbol within and a variable", nil, f(x(0), c), f(c, x(0))},
		{"no parts and one", nil, f(), f(x(0))},
		{"one part and none", nil, f(x(0)), f()},
		{"one part and two", nil, f(x(0)), f(c, c)},
		{"two parts and one", nil, f(x(0), x(1)), f(c)},
		{"unlike numbers of parts, within", nil, g(f(x(0))), g(f(c, c))},
		{"a variable twice and unlike variables", nil, f(x(0), x(0)), f(x(0), x(1))},
		{"a variable twice and unlike variables, turned", nil, f(x(0), x(0)), f(x(1), x(0))},
		{"a variable twice, first to itself", nil, f(x(0), x(0)), f(x(0), c)},
		{"a variable twice, then to itself", nil, f(x(0), x(0)), f(c, x(0))},
		{"a variable twice, in a term of its own", nil, f(x(0), x(0)), f(g(x(0)), x(0))},
		{"a variable twice and unlike numbers of parts", nil, f(x(0), x(0)), f(f(c), f(c, c))},
		{"a variable twice, unlike deep within", nil, f(x(0), g(x(0))), f(g(f(c, d)), g(g(f(c, c))))},
		{"what is bound would have to be put into what was bound", nil, f(x(0), x(1), x(0)), f(x(1), c, c)},
		{"the term's variable stands for itself", nil, f(x(0), x(0)), f(c, x(0))},
		{"bound ahead", subst.S{{V: 0, T: c}}, x(0), d},
		{"bound ahead, and a variable", subst.S{{V: 0, T: c}}, x(0), x(0)},
		{"bound ahead to a variable", subst.S{{V: 0, T: x(1)}}, x(0), c},
		{"bound ahead to a variable that is bound", subst.S{{V: 0, T: x(1)}, {V: 1, T: c}}, x(0), c},
		{"bound ahead to itself", subst.S{{V: 0, T: x(0)}}, x(0), c},
		{"bound ahead to itself, and another variable", subst.S{{V: 0, T: x(0)}}, x(0), x(1)},
		{"bound ahead to a term with variables", subst.S{{V: 0, T: g(x(1))}}, x(0), g(c)},
		{"bound ahead twice", subst.S{{V: 0, T: c}, {V: 0, T: d}}, x(0), d},
		{"bound ahead twice, first to itself", subst.S{{V: 0, T: x(0)}, {V: 0, T: d}}, x(0), d},
		{"bound ahead, with what lies in a variable's list", subst.S{{V: 0, T: loaded(1)}}, x(0), c},
		{"the last of many parts", nil, f(x(0), x(1), c), f(c, d, d)},
		{"the first of many parts", nil, f(c, x(1), x(0)), f(d, c, d)},
		{"symbols at the ends", nil, symbol(math.MaxInt), symbol(0)},
		{"a symbol and a variable at the ends", nil, symbol(math.MaxInt), api.T{F: math.MinInt}},
	}
	for _, k := range known {
		if s, ok := Match(k.s, k.pattern, k.t); ok || len(s) != 0 {
			t.Errorf("P9.1: %s: Match(%v, %v, %v) = %v, %v", k.name, k.s, k.pattern, k.t, s, ok)
		}
		expectMatch(t, k.s, k.pattern, k.t)
		if len(k.s) == 0 && Is(k.pattern, k.t) {
			t.Errorf("P9.1: %s: Is(%v, %v) is true", k.name, k.pattern, k.t)
		}
		if s, ok := Match(k.s, f(x(8), k.pattern, x(9)), f(c, k.t, d)); ok || len(s) != 0 {
			t.Errorf("P9.1: %s, within: Match(%v, %v, %v) = %v, %v", k.name, k.s, k.pattern, k.t, s, ok)
		}
	}
}

func TestKnownParts(t *testing.T) {
	known := []struct {
		name       string
		pattern, t api.T
		want       [][]int
	}{
		{"a variable, by a variable", x(0), x(0), nil},
		{"a variable, by a symbol", c, x(0), nil},
		{"a variable with parts, by a variable", x(0), loaded(0), nil},
		{"a variable with parts, by one of them", c, loaded(0), nil},
		{"a symbol, by itself", c, c, [][]int{{}}},
		{"a symbol, by a variable", x(3), c, [][]int{{}}},
		{"a symbol, by another one", c, d, nil},
		{"all but variables, by a variable", x(0), f(x(0), c, g(f(x(1), d))), [][]int{{}, {1}, {2}, {2, 0}, {2, 0, 1}}},
		{"all but variables, by a variable with parts", loaded(5), f(loaded(0), g(loaded(1))), [][]int{{}, {1}}},
		{"the whole term", f(x(0), g(x(1))), f(g(c), g(d)), [][]int{{}}},
		{"the whole term and what is within", g(x(0)), g(g(g(c))), [][]int{{}, {0}, {0, 0}}},
		{"the whole term, by itself", f(x(0), g(x(1))), f(x(0), g(x(1))), [][]int{{}}},
		{"places inside one another and beside", f(x(0), x(1)), f(f(c, f(d, d)), g(f(x(0), x(0)))), [][]int{{}, {0}, {0, 1}, {1, 0}}},
		{"a variable twice", f(x(0), x(0)), f(f(c, c), f(x(3), f(x(3), x(3)))), [][]int{{0}, {1, 1}}},
		{"a variable twice, each place for itself", f(x(0), x(0)), f(f(c, c), f(d, d)), [][]int{{0}, {1}}},
		{"a variable twice, all the way", f(x(0), x(0)), f(f(c, c), f(c, c)), [][]int{{}, {0}, {1}}},
		{"a symbol in many places", c, f(c, g(c), d, x(0), f(f(c))), [][]int{{0}, {1, 0}, {4, 0, 0}}},
		{"a symbol with unlike numbers of parts", f(x(0)), f(f(c), f(), f(f(c, c))), [][]int{{0}, {2}}},
		{"a symbol where the term has a variable", f(c), f(x(0)), nil},
		{"what lies in a variable's list", g(x(0)), f(api.T{F: -1, L: []api.T{g(c)}}, g(loaded(0))), [][]int{{1}}},
		{"the pattern greater than the term", f(f(x(0))), f(c), nil},
		{"variables of one number", g(f(x(1), x(0))), f(g(f(x(0), x(1))), g(f(x(1), c))), [][]int{{0}, {1}}},
	}
	for _, k := range known {
		if got := Parts(k.pattern, k.t); !samePlaces(got, k.want) {
			t.Errorf("P9.2: %s: Parts(%v, %v) = %v, want %v", k.name, k.pattern, k.t, got, k.want)
		}
		expectParts(t, k.pattern, k.t)
	}
}

// lists has every list of so many items of some.
func lists[T any](length int, of []T) [][]T {
	if length == 0 {
		return [][]T{nil}
	}
	var all [][]T
	for _, rest := range lists(length-1, of) {
		for _, item := range of {
			all = append(all, append(slices.Clone(rest), item))
		}
	}
	return all
}

// smallTerms has all terms of a few ends, g and f, each within another.
func smallTerms(ends ...api.T) []api.T {
	list := slices.Clone(ends)
	for _, a := range ends {
		list = append(list, g(a))
		for _, b := range ends {
			list = append(list, f(a, b), f(g(a), b), f(a, g(b)))
		}
	}
	return append(list, f(), f(x(0)), g(g(x(1))), f(x(0), x(1), x(2)), f(x(2), g(x(0)), x(1)))
}

func TestEveryPairOfSmallTerms(t *testing.T) {
	small := smallTerms(x(0), x(1), x(2), loaded(3), c, d)
	for _, pattern := range small {
		for _, u := range small {
			expectMatch(t, nil, pattern, u)
			expectParts(t, pattern, u)
			expectParts(t, pattern, f(u, g(u), f(c, u)))
		}
	}
}

func TestEveryPairBehindEverySmallSubstitution(t *testing.T) {
	var binds []subst.Bind
	for v := range 3 {
		for _, u := range []api.T{x(0), loaded(1), c, g(x(2))} {
			binds = append(binds, subst.Bind{V: v, T: u})
		}
	}
	small := []api.T{x(0), loaded(1), x(2), c, g(x(0)), f(x(0), x(0)), f(x(0), x(1)), f(x(1), x(0)), f(c, g(x(2))), f(x(1), c), f(g(x(2)), x(0))}
	for length := range 4 {
		for _, s := range lists(length, binds) {
			for _, pattern := range small {
				for _, u := range small {
					expectMatch(t, s, pattern, u)
				}
			}
		}
	}
}

// TestEveryTermOfManyVariables takes all ways in which four parts are the same
// variables or not.
func TestEveryTermOfManyVariables(t *testing.T) {
	var terms []api.T
	for _, list := range lists(4, []api.T{x(0), x(1), x(2), c, g(x(1))}) {
		terms = append(terms, f(list...))
	}
	for _, pattern := range terms {
		for n := 0; n < len(terms); n += 7 {
			expectMatch(t, nil, pattern, terms[n])
			expectMatch(t, subst.S{{V: 1, T: x(2)}, {V: 1, T: c}}, pattern, terms[n])
		}
	}
}

// expectOnly holds that what is told is the one way there is, of all terms that
// could be added: parts of the term, as what is put for a variable stands in it.
func expectOnly(t *testing.T, s subst.S, pattern, u api.T) {
	t.Helper()
	var parts []api.T
	for _, place := range term.Places(u) {
		part, _ := term.At(u, place)
		parts = append(parts, part)
	}
	var free []int
	for _, v := range term.Vars(pattern) {
		if _, ok := bound(s, v); !ok {
			free = append(free, v)
		}
	}
	got, ok := Match(s, pattern, u)
	found := false
	for _, list := range lists(len(free), parts) {
		all := slices.Clone(s)
		for n, v := range free {
			all = append(all, subst.Bind{V: v, T: list[n]})
		}
		if text(filled(pattern, all)) != text(u) {
			continue
		}
		found = true
		if texts(got) != texts(all) {
			t.Fatalf("P9.1: Match(%v, %v, %v) = %v, want %v", s, pattern, u, got, all)
		}
	}
	if ok != found {
		t.Fatalf("P9.1: Match(%v, %v, %v) = %v, but there is a way: %v", s, pattern, u, ok, found)
	}
}

func TestTheOnlyWay(t *testing.T) {
	small := smallTerms(x(0), x(1), c, d)
	for _, s := range []subst.S{nil, {{V: 0, T: x(1)}}, {{V: 1, T: x(1)}, {V: 1, T: c}}, {{V: 0, T: c}, {V: 2, T: x(0)}}} {
		for _, pattern := range small {
			for _, u := range small {
				expectOnly(t, s, pattern, u)
			}
		}
	}
}

// smallSubstitutions has every one of three variables and some terms.
func smallSubstitutions() []subst.S {
	var all []subst.S
	for _, list := range lists(3, []api.T{x(0), x(1), x(5), c, g(x(1)), f(c, x(2))}) {
		all = append(all, subst.S{{V: 2, T: list[0]}, {V: 0, T: list[1]}, {V: 1, T: list[2]}})
	}
	return all
}

func TestWhatIsPutIntoAPatternIsMatched(t *testing.T) {
	patterns := smallTerms(x(0), x(1), loaded(2), x(3), c)
	for _, s := range smallSubstitutions() {
		for _, pattern := range patterns {
			u := s.Apply(pattern)
			got, ok := Match(nil, pattern, u)
			if !ok || !subst.Alike(got, s, term.Vars(pattern)) {
				t.Fatalf("P9.3: %v, with %v put into it: %v, %v", pattern, s, got, ok)
			}
			if !Is(pattern, u) {
				t.Fatalf("P9.3: Is(%v, %v) is false", pattern, u)
			}
			if pattern.F >= 0 && !slices.ContainsFunc(Parts(pattern, f(c, g(u))), func(place []int) bool { return slices.Equal(place, []int{1, 0}) }) {
				t.Fatalf("P9.3: %v is not found within %v", pattern, f(c, g(u)))
			}
			// Behind what was put nothing is left to add, but for what it
			// doesn't bind.
			behind, ok := Match(s, pattern, u)
			if !ok || texts(behind[:len(s)]) != texts(s) || slices.ContainsFunc(behind[len(s):], func(b subst.Bind) bool { return b.V != 3 }) {
				t.Fatalf("P9.3: %v, behind %v: %v, %v", pattern, s, behind, ok)
			}
		}
	}
}

// TestMatchesOfMatches: what is matched by what is matched is matched.
func TestMatchesOfMatches(t *testing.T) {
	small := smallTerms(x(0), x(1), c)
	for _, p := range small {
		for _, q := range small {
			if !Is(p, q) {
				continue
			}
			for _, r := range small {
				if Is(q, r) && !Is(p, r) {
					t.Fatalf("P9.3: %v matches %v, that one %v, but not the first one the last", p, q, r)
				}
			}
		}
	}
}

// expectGoesOn holds that terms one behind the other are matched as they are
// when they are parts of one.
func expectGoesOn(t *testing.T, s subst.S, patterns, terms []api.T) {
	t.Helper()
	want, wantOk := Match(s, f(patterns...), f(terms...))
	got, ok := s, true
	for n := 0; ok && n < len(patterns); n++ {
		got, ok = expectMatch(t, got, patterns[n], terms[n])
	}
	if ok != wantOk || texts(got) != texts(want) {
		t.Fatalf("P9.3: behind %v %v and %v, one by one: %v, %v, want %v, %v", s, patterns, terms, got, ok, want, wantOk)
	}
}

func TestMatchingGoesOn(t *testing.T) {
	patterns := lists(3, []api.T{x(0), x(1), g(x(0)), f(x(1), x(2))})
	terms := lists(3, []api.T{x(0), x(1), c, g(x(1)), f(x(0), c)})
	for _, p := range patterns {
		for _, u := range terms {
			expectGoesOn(t, nil, p, u)
			expectGoesOn(t, subst.S{{V: 1, T: x(0)}, {V: 1, T: c}}, p, u)
		}
	}
}

// TestBehindManyBindings has so many that they are no longer gone through one
// by one: what is told is the same, whether they are many or few.
func TestBehindManyBindings(t *testing.T) {
	for _, length := range []int{few - 2, few - 1, few, few + 1, few + 2, 3 * few} {
		var s subst.S
		var left, right []api.T
		for n := range length {
			s = append(s, subst.Bind{V: n / 2, T: g(x(n))})
			left = append(left, x(n))
			right = append(right, g(x(2*n)))
		}
		expectMatch(t, s, f(left...), f(right...))
		expectMatch(t, s, f(slices.Concat(left, left)...), f(slices.Concat(right, right)...))
		expectMatch(t, s, f(slices.Concat(left, left)...), f(slices.Concat(right, right[1:], right[:1])...))
		expectMatch(t, s, f(x(length), x(0), x(length)), f(x(0), g(x(0)), x(0)))
		expectMatch(t, s, f(x(length), x(0), x(length)), f(x(0), g(x(0)), x(length)))
		expectMatch(t, s, x(0), g(x(1)))
		expectMatch(t, s, c, c)
		expectMatch(t, nil, f(slices.Concat(left, left)...), f(slices.Concat(right, right)...))
		expectMatch(t, nil, f(append(left, x(length-1))...), f(append(right, x(length-1))...))
	}
}

// TestSharedMemoryHandedIn hands in one list in several places: what is told
// shares none even so.
func TestSharedMemoryHandedIn(t *testing.T) {
	list := []api.T{x(0), loaded(1), g(c)}
	expectMatch(t, nil, f(x(5), x(6), x(5)), f(f(list...), f(list...), f(list...)))
	expectMatch(t, subst.S{{V: 5, T: f(list...)}, {V: 7, T: f(list[:2]...)}, {V: 5, T: g(f(list...))}}, f(x(5), x(6)), f(f(list...), f(list...)))
	expectMatch(t, nil, f(list...), f(list...))
	expectMatch(t, subst.S{{V: 0, T: f(list...)}, {V: 1, T: f(list...)}}, c, c)
	expectParts(t, x(0), f(f(list...), f(list...)))
}

// TestWhatIsHandedInHasRoom holds that lists with room behind them are not
// written into there, neither by the call nor by one that writes into what it
// told.
func TestWhatIsHandedInHasRoom(t *testing.T) {
	parts := []api.T{x(0), g(x(1)), d, loaded(4), c}
	binds := subst.S{{V: 2, T: f(parts[:2]...)}, {V: 3, T: c}, {V: 0, T: d}, {V: 7, T: x(2)}}
	partsWas, bindsWas := copied(f(parts...)), copiedBindings(binds)
	s, ok := Match(binds[:2], f(x(0), g(x(7))), f(parts[:2]...))
	if !ok || texts(s) != texts(append(slices.Clone(bindsWas[:2]), subst.Bind{V: 0, T: x(0)}, subst.Bind{V: 7, T: x(1)})) {
		t.Errorf("P9.1: behind what has room Match tells %v, %v", s, ok)
	}
	again, ok := Match(binds[:2], f(x(0), g(x(0))), f(parts[:2]...))
	if ok || len(again) != 0 {
		t.Errorf("P9.1: behind what has room Match tells %v, %v", again, ok)
	}
	same, ok := Match(binds[:2], c, c)
	if !ok || len(same) != 2 {
		t.Errorf("P9.1: behind what has room Match tells %v, %v", same, ok)
	}
	Is(f(x(0), x(1)), f(parts[:2]...))
	Parts(x(0), f(parts[:2]...))
	for _, told := range []subst.S{s, same} {
		for n := range told {
			for m := range told[n].T.L {
				told[n].T.L[m] = symbol(8)
			}
			told[n] = subst.Bind{V: 9, T: symbol(9)}
		}
		_ = append(told, subst.Bind{V: 9, T: symbol(9)})
	}
	unchanged(t, f(parts...), partsWas)
	unchanged(t, binds, bindsWas)
}

// TestOneAnswerHasRoom goes on twice behind one answer: neither writes into the
// other's.
func TestOneAnswerHasRoom(t *testing.T) {
	s, ok := Match(nil, f(x(0), x(1), x(2)), f(c, d, c))
	if !ok {
		t.Fatal("P9.1: Match")
	}
	one, _ := Match(s, x(5), c)
	other, _ := Match(s, x(6), d)
	if texts(one[3:]) != "5 1()" || texts(other[3:]) != "6 2()" || texts(one[:3]) != texts(s) || texts(other[:3]) != texts(s) {
		t.Errorf("R4: behind %v: %v, %v", s, one, other)
	}
}

// TestNumbersAtTheirEnds: numbers of symbols and variables at the ends are
// numbers like others.
func TestNumbersAtTheirEnds(t *testing.T) {
	ends := []int{math.MinInt, math.MinInt + 1, -2 - 1<<30, -1, 0, 1<<31 - 1, math.MaxInt}
	for _, a := range ends {
		for _, b := range ends {
			for _, v := range []int{math.MinInt, -1, 0, math.MaxInt} {
				s := subst.S{{V: v, T: api.T{F: a}}}
				expectMatch(t, s, f(api.T{F: a}, api.T{F: b}), f(api.T{F: b}, api.T{F: a}))
				expectMatch(t, s, api.T{F: a}, api.T{F: a, L: []api.T{{F: b}}})
				expectParts(t, api.T{F: a}, f(api.T{F: b}, api.T{F: a}))
			}
		}
	}
}

func chain(depth int, end api.T) api.T {
	for range depth {
		end = g(end)
	}
	return end
}

// TestDeepTerms goes to the bound on parts nested in one another.
func TestDeepTerms(t *testing.T) {
	const depth = 1 << 16
	s, ok := Match(nil, chain(depth, x(0)), chain(depth, f(x(0), c)))
	if !ok || texts(s) != "0 "+text(f(x(0), c)) {
		t.Errorf("P9.1: of deep terms Match tells %v, %v", s, ok)
	}
	s, ok = Match(nil, f(x(0), x(1), x(0)), f(chain(depth, c), chain(depth, d), chain(depth, c)))
	if !ok || len(s) != 2 || !term.Same(s[1].T, chain(depth, d)) {
		t.Errorf("P9.1: of deep terms Match tells %d bindings, %v", len(s), ok)
	}
	if Is(f(x(0), x(0)), f(chain(depth, c), chain(depth, d))) || Is(chain(depth, c), chain(depth, d)) || Is(chain(depth, c), chain(depth-1, c)) {
		t.Error("P9.1: deep terms that aren't the same are")
	}
	places := Parts(f(x(0), x(0)), chain(depth, f(f(c, d), f(c, d))))
	if len(places) != 1 || len(places[0]) != depth {
		t.Errorf("P9.2: of a deep term Parts tells %d places", len(places))
	}
	if places := Parts(g(g(f(x(0), d))), chain(depth, f(c, d))); len(places) != 1 || len(places[0]) != depth-2 {
		t.Errorf("P9.2: of a deep term Parts tells %d places", len(places))
	}
}

// TestDeepTermsWithOthersBeside has in each place a great part and a small one:
// to write out the great one for each place would take long.
func TestDeepTermsWithOthersBeside(t *testing.T) {
	const depth = 1 << 16
	left, right := f(c, c), f(c, c)
	for range depth {
		left, right = f(left, c), f(c, right)
	}
	for _, u := range []api.T{left, right} {
		if places := Parts(f(x(0), x(0)), u); len(places) != 1 || len(places[0]) != depth {
			t.Errorf("P9.2: of a deep term Parts tells %d places", len(places))
		}
	}
}

// TestManyVariables has so many that to go through all of them for each one
// would take long.
func TestManyVariables(t *testing.T) {
	const many = 1 << 18
	var left, right []api.T
	for n := range many {
		left = append(left, x(many-n))
		right = append(right, g(x(n)))
	}
	s, ok := Match(nil, f(f(left...), f(left...)), f(f(right...), f(right...)))
	if !ok || len(s) != many {
		t.Fatalf("P9.1: of many variables Match tells %d bindings, %v", len(s), ok)
	}
	for n, b := range s {
		if b.V != many-n || text(b.T) != text(g(x(n))) {
			t.Fatalf("P9.1: of many variables %d is bound to %v", b.V, b.T)
		}
	}
	more, ok := Match(s, f(x(0), f(left...), x(many+1)), f(c, f(right...), x(0)))
	if !ok || len(more) != many+2 || texts(more[many:]) != "0 1(), "+strconv.Itoa(many+1)+" x0" {
		t.Errorf("P9.1: behind many bindings Match tells %d, %v", len(more), ok)
	}
	right[many-1] = c
	if s, ok := Match(s, f(left...), f(right...)); ok || len(s) != 0 {
		t.Errorf("P9.1: behind many bindings Match tells %d, %v", len(s), ok)
	}
}

// TestWideTerms has many parts beside one another, all of one variable.
func TestWideTerms(t *testing.T) {
	const many = 1 << 18
	left, right := slices.Repeat([]api.T{x(0)}, many), slices.Repeat([]api.T{g(c)}, many)
	if s, ok := Match(nil, f(left...), f(right...)); !ok || texts(s) != "0 "+text(g(c)) {
		t.Errorf("P9.1: of many parts Match tells %d bindings, %v", len(s), ok)
	}
	if places := Parts(g(x(0)), f(right...)); len(places) != many || !slices.Equal(places[many-1], []int{many - 1}) {
		t.Errorf("P9.2: of many parts Parts tells %d places", len(places))
	}
	right[many-1] = g(d)
	if Is(f(left...), f(right...)) {
		t.Error("P9.1: Is, of many parts")
	}
}

// read makes a term of bytes: each is a head and a number of parts.
func read(b []byte, depth int) (api.T, []byte) {
	if len(b) == 0 {
		return api.T{}, nil
	}
	head := int(b[0])
	t := api.T{F: head%8 - 5}
	b = b[1:]
	if depth > 0 {
		for range head / 8 % 4 {
			var part api.T
			part, b = read(b, depth-1)
			t.L = append(t.L, part)
		}
	}
	return t, b
}

// readBindings makes bindings of bytes, so many as the first one says.
func readBindings(b []byte) (subst.S, []byte) {
	if len(b) == 0 {
		return nil, nil
	}
	count := int(b[0]) % 4
	b = b[1:]
	var s subst.S
	for n := 0; n < count && len(b) > 0; n++ {
		bind := subst.Bind{V: int(b[0])%7 - 1}
		bind.T, b = read(b[1:], 2)
		s = append(s, bind)
	}
	return s, b
}

func FuzzMatch(f *testing.F) {
	f.Add([]byte{})
	f.Add([]byte{0, 23, 4, 4, 23, 6, 6})
	f.Add([]byte{1, 1, 3, 23, 4, 3, 23, 6, 3})
	f.Add([]byte{2, 1, 4, 1, 15, 6, 23, 4, 31, 3, 4, 2, 23, 4, 31, 6, 4, 15, 6})
	f.Fuzz(func(t *testing.T, b []byte) {
		if len(b) > 80 {
			t.Skip()
		}
		s, b := readBindings(b)
		var patterns, terms []api.T
		for len(b) > 0 {
			var pattern, u api.T
			pattern, b = read(b, 3)
			u, b = read(b, 4)
			patterns, terms = append(patterns, pattern), append(terms, u)
			expectMatch(t, s, pattern, u)
			expectMatch(t, nil, pattern, u)
			expectMatch(t, nil, pattern, s.Apply(pattern))
			expectParts(t, pattern, u)
			expectParts(t, pattern, symbol(3, u, s.Apply(pattern)))
			if !Is(pattern, s.Apply(pattern)) {
				t.Fatalf("P9.3: %v, with %v put into it, is not matched", pattern, s)
			}
		}
		expectGoesOn(t, s, patterns, terms)
	})
}
