package kbo

import (
	"math"
	"reflect"
	"slices"
	"testing"

	"sorites/api"
	"sorites/term"
)

func symbol(f int, list ...api.T) api.T { return api.T{F: f, L: list} }

func x(n int) api.T { return api.T{F: -1 - n} }

// loaded is a variable with parts, which count for nothing.
func loaded(n int) api.T {
	return api.T{F: -1 - n, L: []api.T{symbol(1), x(0), symbol(7, x(1), x(5))}}
}

var (
	c = symbol(1)
	d = symbol(2)
)

func g(t api.T) api.T { return symbol(3, t) }

func f(list ...api.T) api.T { return symbol(4, list...) }

func h(t api.T) api.T { return symbol(5, t) }

// plainCovers goes by the chapter's words, as does plainGreater.
func plainCovers(a, b api.T) bool {
	return !slices.ContainsFunc(term.Vars(b), func(v int) bool { return term.Count(b, -1-v) > term.Count(a, -1-v) })
}

func plainGreater(a, b api.T) bool {
	if !plainCovers(a, b) {
		return false
	}
	if m, n := term.Size(a), term.Size(b); m != n {
		return m > n
	}
	if a.F < 0 || b.F < 0 {
		return false
	}
	if a.F != b.F {
		return a.F > b.F
	}
	if len(a.L) != len(b.L) {
		return len(a.L) > len(b.L)
	}
	for n := range a.L {
		if !term.Same(a.L[n], b.L[n]) {
			return plainGreater(a.L[n], b.L[n])
		}
	}
	return false
}

func plainCompare(a, b api.T) int {
	switch {
	case term.Same(a, b):
		return 0
	case plainGreater(a, b):
		return 1
	case plainGreater(b, a):
		return -1
	}
	return 2
}

// copied is a term to hold against, with all that lies in a variable's list and
// behind a list.
func copied(t api.T) api.T {
	whole := slices.Clone(t.L[:cap(t.L)])
	for n := range whole {
		whole[n] = copied(whole[n])
	}
	return api.T{F: t.F, L: whole[:len(t.L)]}
}

func unchanged(t *testing.T, now, was api.T) {
	t.Helper()
	if now.F != was.F || len(now.L) != len(was.L) || !reflect.DeepEqual(copied(now), copied(was)) {
		t.Fatalf("R4: %v became %v", was, now)
	}
}

// turned is what is told of b and a, where this is told of a and b.
func turned(order int) int {
	if order == 2 {
		return 2
	}
	return -order
}

// expectOrder holds all that is told of two terms, both ways round.
func expectOrder(t *testing.T, name string, a, b api.T, want int) {
	t.Helper()
	aWas, bWas := copied(a), copied(b)
	if got := Compare(a, b); got != want {
		t.Errorf("P10.1: %s: Compare(%v, %v) = %d, want %d", name, a, b, got, want)
	}
	if got := Compare(b, a); got != turned(want) {
		t.Errorf("P10.1: %s: Compare(%v, %v) = %d, want %d", name, b, a, got, turned(want))
	}
	if got := Greater(a, b); got != (want == 1) {
		t.Errorf("P10.1: %s: Greater(%v, %v) = %v", name, a, b, got)
	}
	if got := Greater(b, a); got != (want == -1) {
		t.Errorf("P10.1: %s: Greater(%v, %v) = %v", name, b, a, got)
	}
	unchanged(t, a, aWas)
	unchanged(t, b, bWas)
}

// expectCovers holds which of two terms covers the other one.
func expectCovers(t *testing.T, name string, a, b api.T, there, back bool) {
	t.Helper()
	aWas, bWas := copied(a), copied(b)
	if got := Covers(a, b); got != there {
		t.Errorf("P10.1: %s: Covers(%v, %v) = %v", name, a, b, got)
	}
	if got := Covers(b, a); got != back {
		t.Errorf("P10.1: %s: Covers(%v, %v) = %v", name, b, a, got)
	}
	unchanged(t, a, aWas)
	unchanged(t, b, bWas)
}

// expectPlain holds all that is told of two terms against the chapter's words.
func expectPlain(t *testing.T, a, b api.T) int {
	t.Helper()
	order := plainCompare(a, b)
	expectOrder(t, "by the words", a, b, order)
	expectCovers(t, "by the words", a, b, plainCovers(a, b), plainCovers(b, a))
	if t.Failed() {
		t.FailNow()
	}
	return order
}

func TestKnownOrders(t *testing.T) {
	known := []struct {
		name string
		a, b api.T
		want int
	}{
		{"the chapter's first example", f(x(0), c), g(x(0)), 1},
		{"the chapter's second example", x(0), c, 2},
		{"nothing and nothing", api.T{}, api.T{}, 0},
		{"a symbol and itself", c, c, 0},
		{"no parts, nil and empty", c, api.T{F: 1, L: []api.T{}}, 0},
		{"a term and itself", f(x(0), g(x(1))), f(x(0), g(x(1))), 0},
		{"a variable and itself", x(1), x(1), 0},
		{"a variable and another one", x(0), x(1), 2},
		{"a variable and a term with it", g(x(0)), x(0), 1},
		{"a variable and a term with it deep within", f(c, g(g(x(3)))), x(3), 1},
		{"a variable and a term with it and others", f(x(1), x(0)), x(0), 1},
		{"a variable and a term without it", g(c), x(0), 2},
		{"a variable and a term with another one", f(x(1), x(1)), x(0), 2},
		{"a variable and the symbol 0", x(0), symbol(0), 2},
		{"a variable and a great symbol", symbol(math.MaxInt), x(0), 2},
		{"the greater size", g(c), d, 1},
		{"the greater size, of the lesser symbol", symbol(0, c), symbol(9), 1},
		{"the greater size, with fewer parts", f(g(g(g(c)))), f(d, d), 1},
		{"the greater size, with lesser first parts", f(c, g(c)), f(d, c), 1},
		{"the greater size by a late part, first parts neither", f(x(0), x(1), g(c)), f(x(1), x(0), c), 1},
		{"the greater size, first part less and smaller", f(c, g(g(c))), f(g(c), c), 1},
		{"a variable more often in the greater one", f(x(0), x(0)), g(x(0)), 1},
		{"a variable more often in the smaller one", f(x(0), x(0)), f(x(0), g(c)), 2},
		{"a variable more often in the smaller one, by far", f(x(0), x(0)), f(f(x(0), c), f(d, g(d))), 2},
		{"a variable in the smaller one alone", g(x(1)), f(x(0), g(g(c))), 2},
		{"each with a variable of its own, of like sizes", h(x(0)), g(x(1)), 2},
		{"each with a variable more often", f(f(x(0), x(0)), x(1)), f(x(0), f(x(1), x(1))), 2},
		{"like sizes, two symbols", d, c, 1},
		{"like sizes, the symbol 0", c, symbol(0), 1},
		{"like sizes, symbols at the end", symbol(math.MaxInt), symbol(math.MaxInt - 1), 1},
		{"like sizes, the greater symbol with lesser parts", h(c), g(d), 1},
		{"like sizes, the greater symbol with fewer parts", h(g(c)), f(d, d), 1},
		{"like sizes, the greater symbol with more parts", f(x(0), c), g(g(x(0))), 1},
		{"like sizes, the greater symbol, with the same variables", h(f(x(1), x(0))), g(f(x(0), x(1))), 1},
		{"like sizes, the greater symbol, with more variables", h(x(0)), g(c), 1},
		{"like sizes, the greater symbol, with fewer variables", h(c), g(x(0)), 2},
		{"like sizes, the greater symbol, a variable less often", symbol(6, x(0), c), f(x(0), x(0)), 2},
		{"unlike numbers of parts", f(c, c), f(g(d)), 1},
		{"unlike numbers of parts, none and some", f(c), f(), 1},
		{"unlike numbers of parts, the same size, first parts less", f(c, d), f(h(c)), 1},
		{"unlike numbers of parts, the same variables", f(x(0), c), f(g(x(0))), 1},
		{"unlike numbers of parts, with fewer variables", f(c, c), f(g(x(0))), 2},
		{"unlike numbers of parts, within", g(f(c, c)), g(f(h(c))), 1},
		{"the first part", f(d, c), f(c, d), 1},
		{"the first part, with the same variables", f(g(x(0)), x(0)), f(x(0), g(x(0))), 1},
		{"a late part", f(c, c, d), f(c, c, c), 1},
		{"a late part, behind variables", f(x(0), x(1), d), f(x(0), x(1), c), 1},
		{"a late part, behind great parts", f(f(g(c), x(2)), h(d)), f(f(g(c), x(2)), g(d)), 1},
		{"a late part that can't be held against", f(c, x(0)), f(c, d), 2},
		{"a late part, of another variable", f(c, x(0)), f(c, x(1)), 2},
		{"first parts that can't be held against, turned variables", f(x(0), x(1)), f(x(1), x(0)), 2},
		{"first parts that can't be held against, a late one greater", f(x(0), x(1), d), f(x(1), x(0), c), 2},
		{"first parts that can't be held against, x0 and c", f(x(0), c), f(c, x(0)), 2},
		{"first parts that can't be held against, within", g(f(x(0), x(1))), g(f(x(1), x(0))), 2},
		{"first parts that can't be held against, of unlike sizes", f(g(c), x(0)), f(x(0), g(c)), 2},
		{"first parts with fewer variables, made good later", f(h(c), x(0)), f(g(x(0)), c), 2},
		{"first parts greater, a variable lost in all", f(d, c), f(c, x(0)), 2},
		{"first parts greater, a variable won in all", f(d, x(0)), f(c, c), 1},
		{"deep within", g(g(f(c, g(d)))), g(g(f(c, g(c)))), 1},
		{"deep within, outer sizes turn it", f(g(f(c, d)), c), f(g(f(c, c)), g(c)), -1},
		{"a variable with parts and one without", loaded(0), x(0), 0},
		{"two variables with parts", loaded(0), api.T{F: -1, L: []api.T{d, d}}, 0},
		{"a variable with parts and another one", loaded(0), x(1), 2},
		{"a variable with parts and a symbol", loaded(0), c, 2},
		{"a variable with parts and a part", loaded(2), g(c), 2},
		{"a variable with parts within", f(loaded(0), c), f(x(0), c), 0},
		{"a variable with parts counts as one", g(g(x(0))), g(loaded(0)), 1},
		{"a variable with parts, the greater symbol", h(x(2)), g(loaded(2)), 1},
		{"what lies in a variable's list is no variable", g(loaded(4)), x(0), 2},
		{"what lies in a variable's list is not less often", g(x(4)), loaded(4), 1},
		{"a variable with parts, a late part", f(loaded(0), d), f(x(0), c), 1},
		{"variables at the end", symbol(0, api.T{F: math.MinInt}), api.T{F: math.MinInt}, 1},
		{"variables at both ends", api.T{F: math.MinInt}, x(0), 2},
	}
	for _, k := range known {
		expectOrder(t, k.name, k.a, k.b, k.want)
		if want := plainCompare(k.a, k.b); want != k.want {
			t.Errorf("%s: by the words %v and %v are %d, not %d", k.name, k.a, k.b, want, k.want)
		}
	}
}

func TestKnownCovers(t *testing.T) {
	known := []struct {
		name        string
		a, b        api.T
		there, back bool
	}{
		{"nothing and nothing", api.T{}, api.T{}, true, true},
		{"no variables", f(c, d), g(g(c)), true, true},
		{"a variable and itself", x(0), x(0), true, true},
		{"a variable and a symbol", x(0), c, true, false},
		{"a variable and another one", x(0), x(1), false, false},
		{"a variable and a term with it", g(x(0)), x(0), true, true},
		{"a variable and a term without it", x(0), g(g(c)), true, false},
		{"a variable twice and once", f(x(0), x(0)), g(x(0)), true, false},
		{"a variable thrice and twice", f(x(2), g(f(x(2), x(2)))), f(x(2), x(2)), true, false},
		{"turned variables", f(x(0), x(1)), f(x(1), x(0)), true, true},
		{"two variables and one of them", f(x(0), x(1)), g(x(1)), true, false},
		{"each more often in one", f(x(0), f(x(0), x(1))), f(x(1), f(x(0), x(1))), false, false},
		{"one more often, another one less, as many in all", f(x(0), x(0)), f(x(0), x(1)), false, false},
		{"the smaller one has it more often", f(x(0), x(0)), f(f(c, d), f(c, x(0))), true, false},
		{"in other places", f(x(0), g(f(x(1), x(0)))), f(f(f(x(0), c), x(0)), x(1)), true, true},
		{"a variable with parts and one without", loaded(3), x(3), true, true},
		{"what lies in a variable's list", loaded(3), f(x(3), c), true, true},
		{"what lies in a variable's list counts for nothing", f(loaded(3), c), x(0), false, false},
		{"what lies in a variable's list is not asked for", g(loaded(0)), f(x(0), x(0)), false, true},
		{"variables at the ends", f(api.T{F: math.MinInt}, x(0)), api.T{F: math.MinInt}, true, false},
		{"other variables at the ends", api.T{F: math.MinInt}, api.T{F: math.MinInt + 1}, false, false},
	}
	for _, k := range known {
		expectCovers(t, k.name, k.a, k.b, k.there, k.back)
		if there, back := plainCovers(k.a, k.b), plainCovers(k.b, k.a); there != k.there || back != k.back {
			t.Errorf("%s: by the words %v and %v are %v, %v", k.name, k.a, k.b, there, back)
		}
	}
}

// lists has every list of so many terms of some.
func lists(length int, of []api.T) [][]api.T {
	if length == 0 {
		return [][]api.T{nil}
	}
	var all [][]api.T
	for _, rest := range lists(length-1, of) {
		for _, item := range of {
			all = append(all, append(slices.Clone(rest), item))
		}
	}
	return all
}

// within has all terms of a symbol with one part and one with two, of some.
func within(some []api.T) []api.T {
	var list []api.T
	for _, a := range some {
		list = append(list, g(a))
		for _, b := range some {
			list = append(list, f(a, b))
		}
	}
	return list
}

// deeper has some, those of one kind in which they are, and some in which these are.
func deeper(ends ...api.T) []api.T {
	first := within(ends)
	list := slices.Concat(ends, first)
	for n, a := range first {
		b := first[(n+5)%len(first)]
		list = append(list, g(a), f(a, ends[n%len(ends)]), f(ends[n%len(ends)], a), f(a, b))
	}
	return list
}

// mixed has terms whose symbols have now so many parts, now so many.
func mixed() []api.T {
	return []api.T{f(), f(c), f(x(0)), f(x(0), x(1)), f(c, x(0), c), f(x(1), x(0), x(1)), h(x(0)), h(g(x(0))), h(f(c, c)), symbol(3), symbol(3, x(0), x(1)), symbol(5), f(g(x(0))), f(f(f())), symbol(0), symbol(1, c), f(symbol(1, x(0)), c)}
}

func TestEveryPairOfSmallTerms(t *testing.T) {
	small := append(deeper(x(0), x(1), loaded(2), c, d), mixed()...)
	seen := map[int]int{}
	for _, a := range small {
		for _, b := range small {
			seen[expectPlain(t, a, b)]++
		}
	}
	for _, order := range []int{-1, 0, 1, 2} {
		if seen[order] < len(small) {
			t.Errorf("of %d small terms only %d pairs are %d", len(small), seen[order], order)
		}
	}
}

// TestEveryTermOfManyParts takes all ways in which parts are the same or not:
// the first that aren't tell, but for the variables of all.
func TestEveryTermOfManyParts(t *testing.T) {
	var terms []api.T
	for _, list := range lists(4, []api.T{x(0), x(1), c, d, g(x(0))}) {
		terms = append(terms, f(list...))
	}
	for n, a := range terms {
		for m := n % 3; m < len(terms); m += 3 {
			expectPlain(t, a, terms[m])
		}
	}
}

func TestStrictAndTransitive(t *testing.T) {
	small := append(deeper(x(0), x(1), c), append(mixed(), d, g(d), f(d, x(1)))...)
	above := make([][]int, len(small))
	for n, a := range small {
		if Greater(a, a) || Compare(a, a) != 0 {
			t.Errorf("P10.2: %v is not the same as itself", a)
		}
		for m, b := range small {
			if Greater(a, b) {
				above[n] = append(above[n], m)
			}
			if Greater(a, b) && Greater(b, a) {
				t.Errorf("P10.2: %v and %v are greater than each other", a, b)
			}
		}
	}
	for n := range small {
		for _, m := range above[n] {
			for _, k := range above[m] {
				if !slices.Contains(above[n], k) {
					t.Fatalf("P10.2: %v is greater than %v, that one than %v, but not the first one than the last", small[n], small[m], small[k])
				}
			}
		}
	}
}

func TestGreaterThanItsParts(t *testing.T) {
	for _, a := range append(deeper(x(0), x(1), loaded(2), c, d), mixed()...) {
		for _, place := range term.Places(a)[1:] {
			part, _ := term.At(a, place)
			expectOrder(t, "a part", a, part, 1)
			expectCovers(t, "a part", a, part, true, plainCovers(part, a))
		}
	}
}

// filled is a term with terms put for its variables, by their numbers.
func filled(t api.T, put []api.T) api.T {
	if t.F < 0 {
		if v := -1 - t.F; v < len(put) {
			return put[v]
		}
		return t
	}
	var list []api.T
	for _, part := range t.L {
		list = append(list, filled(part, put))
	}
	return api.T{F: t.F, L: list}
}

// TestStaysWhateverIsPutIn puts into both terms the same ones, also one of the
// variables into the other's place.
func TestStaysWhateverIsPutIn(t *testing.T) {
	small := append(deeper(x(0), x(1), c), mixed()...)
	puts := lists(2, []api.T{x(0), x(1), x(2), symbol(0), d, symbol(9), g(x(1)), f(x(0), g(d))})
	for _, a := range small {
		for _, b := range small {
			if !Greater(a, b) {
				continue
			}
			for _, put := range puts {
				if u, v := filled(a, put), filled(b, put); !Greater(u, v) || Compare(v, u) != -1 {
					t.Fatalf("P10.2: %v is greater than %v, but with %v in them it isn't", a, b, put)
				}
			}
		}
	}
}

// around has terms with the place in them at which a term is put: first, late,
// deep within, and beside parts that the order can't do without.
func around() []struct {
	whole api.T
	place []int
} {
	return []struct {
		whole api.T
		place []int
	}{
		{g(c), []int{0}},
		{f(c), []int{0}},
		{f(c, c), []int{0}},
		{f(c, c), []int{1}},
		{f(x(0), c, x(1)), []int{1}},
		{f(x(1), loaded(0), c), []int{2}},
		{f(c, f(x(0), x(0)), d, x(3)), []int{0}},
		{f(g(x(0)), f(d, g(g(c)), x(1)), x(1)), []int{1, 1, 0}},
	}
}

func TestStaysWhateverItIsPutInto(t *testing.T) {
	small := append(deeper(x(0), x(1), c), mixed()...)
	for _, a := range small {
		for _, b := range small {
			order := Compare(a, b)
			for _, into := range around() {
				u, _ := term.Put(into.whole, into.place, a)
				v, _ := term.Put(into.whole, into.place, b)
				if got := Compare(u, v); got != order || Greater(u, v) != (order == 1) {
					t.Fatalf("P10.2: %v and %v are %d, but within %v %d", a, b, order, into.whole, got)
				}
				if Covers(u, v) != Covers(a, b) {
					t.Fatalf("P10.1: Covers(%v, %v) hangs on what is beside: %v", a, b, into.whole)
				}
			}
		}
	}
}

// TestOneIsGreater has terms without variables, whose symbols have each their
// number of parts.
func TestOneIsGreater(t *testing.T) {
	ground := append(deeper(symbol(0), c, d, symbol(8)), h(c), h(h(d)), f(h(c), g(d)), symbol(6, c, d, c), symbol(6, c, c, d), g(symbol(6, d, c, c)))
	for n, a := range ground {
		for m, b := range ground {
			order := Compare(a, b)
			if term.Same(a, b) != (order == 0) || order == 2 {
				t.Fatalf("P10.2: the terms %d and %d, %v and %v, are %d", n, m, a, b, order)
			}
			if order != 0 && Greater(a, b) == Greater(b, a) {
				t.Fatalf("P10.2: of %v and %v not one is greater", a, b)
			}
			if !Covers(a, b) {
				t.Fatalf("P10.1: Covers(%v, %v) is false", a, b)
			}
		}
	}
}

// TestOneRowOfAll: terms without variables stand in one row, and each stands in
// it at the place of its size.
func TestOneRowOfAll(t *testing.T) {
	ground := deeper(symbol(0), c, d)
	for range 2 {
		slices.Reverse(ground)
		row := slices.Clone(ground)
		slices.SortStableFunc(row, Compare)
		for n := range row[1:] {
			if order := Compare(row[n], row[n+1]); order != -1 && order != 0 || term.Size(row[n]) > term.Size(row[n+1]) {
				t.Fatalf("P10.2: in a row %v is ahead of %v", row[n], row[n+1])
			}
		}
	}
}

// TestSharedMemoryHandedIn hands in one list in several places, with room
// behind it.
func TestSharedMemoryHandedIn(t *testing.T) {
	list := []api.T{x(0), loaded(1), g(c), d, x(7)}
	for n := range list {
		for m := range list {
			a, b := f(f(list[:n]...), f(list[:m]...), c), f(f(list[:n]...), f(list[n:]...), d)
			expectPlain(t, a, b)
			expectPlain(t, f(list[:n]...), f(list[:m]...))
			expectPlain(t, f(list[n:]...), f(list[:m]...))
		}
	}
}

// TestNothingIsKept asks the same things again, behind others.
func TestNothingIsKept(t *testing.T) {
	small := append(deeper(x(0), c), mixed()...)
	for _, a := range small {
		want, covers := Compare(a, f(x(0), c)), Covers(a, x(0))
		for _, b := range small {
			Compare(b, a)
			Covers(b, a)
			Greater(a, b)
			if Compare(a, f(x(0), c)) != want || Covers(a, x(0)) != covers {
				t.Fatalf("R6: behind %v other things are told of %v", b, a)
			}
		}
	}
}

// TestNumbersAtTheirEnds: numbers of symbols and variables at the ends are
// numbers like others.
func TestNumbersAtTheirEnds(t *testing.T) {
	ends := []int{math.MinInt, math.MinInt + 1, -2 - 1<<30, -2, -1, 0, 1, 1<<31 - 1, math.MaxInt - 1, math.MaxInt}
	for _, a := range ends {
		for _, b := range ends {
			for _, e := range ends {
				expectPlain(t, api.T{F: a}, api.T{F: b})
				expectPlain(t, api.T{F: a, L: []api.T{{F: e}}}, api.T{F: b})
				expectPlain(t, api.T{F: a, L: []api.T{{F: e}}}, api.T{F: b, L: []api.T{{F: e}}})
				expectPlain(t, api.T{F: a, L: []api.T{{F: b}}}, api.T{F: a, L: []api.T{{F: e}}})
				expectPlain(t, f(api.T{F: a}, api.T{F: b}), f(api.T{F: e}, api.T{F: a}))
			}
		}
	}
}

func chain(depth int, end api.T) api.T {
	for range depth {
		end = g(end)
	}
	return end
}

// expectGreat holds what is told of terms that are too great to be printed.
func expectGreat(t *testing.T, name string, a, b api.T, want int) {
	t.Helper()
	if there, back := Compare(a, b), Compare(b, a); there != want || back != turned(want) {
		t.Errorf("P10.1: %s: Compare tells %d, and the other way round %d, want %d", name, there, back, want)
	}
	if there, back := Greater(a, b), Greater(b, a); there != (want == 1) || back != (want == -1) {
		t.Errorf("P10.1: %s: Greater tells %v, and the other way round %v", name, there, back)
	}
}

// TestDeepTerms goes to the bound on parts nested in one another: to weigh all
// that is within again for each part would take long.
func TestDeepTerms(t *testing.T) {
	const depth = 1 << 16
	expectGreat(t, "the same", chain(depth, f(x(0), c)), chain(depth, f(x(0), c)), 0)
	expectGreat(t, "unlike at the end", chain(depth, d), chain(depth, c), 1)
	expectGreat(t, "turned variables at the end", chain(depth, f(x(0), x(1))), chain(depth, f(x(1), x(0))), 2)
	expectGreat(t, "a variable won at the end", chain(depth, h(x(0))), chain(depth, g(c)), 1)
	expectGreat(t, "a variable lost at the end", chain(depth, h(c)), chain(depth, g(x(0))), 2)
	expectGreat(t, "deeper", chain(depth, x(0)), chain(depth-1, x(0)), 1)
	expectGreat(t, "deeper, with another variable", chain(depth, x(0)), chain(depth-1, x(1)), 2)
	if !Covers(chain(depth, x(0)), x(0)) || Covers(chain(depth, x(0)), chain(depth, x(1))) {
		t.Error("P10.1: Covers, of deep terms")
	}
}

// ladder has in each place a part that leads on, and a variable ahead of it or
// behind it: another one each time.
func ladder(depth int, ahead bool, end api.T) api.T {
	for n := range depth {
		if ahead {
			end = f(x(n), end)
		} else {
			end = f(end, x(n))
		}
	}
	return end
}

// TestDeepTermsWithVariables has as many variables as parts: to go through all
// of them for each part would take long.
func TestDeepTermsWithVariables(t *testing.T) {
	const depth = 1 << 16
	for _, ahead := range []bool{false, true} {
		expectGreat(t, "the same", ladder(depth, ahead, c), ladder(depth, ahead, c), 0)
		expectGreat(t, "unlike at the end", ladder(depth, ahead, d), ladder(depth, ahead, c), 1)
		expectGreat(t, "a variable at the end", ladder(depth, ahead, x(depth/2)), ladder(depth, ahead, c), 2)
		expectGreat(t, "greater at the end", ladder(depth, ahead, g(x(5))), ladder(depth, ahead, x(5)), 1)
		expectGreat(t, "less at the end, and a variable more", ladder(depth, ahead, f(c, x(0))), ladder(depth, ahead, g(d)), 1)
	}
	if !Covers(ladder(depth, true, c), ladder(depth, false, d)) || Covers(ladder(depth, true, c), ladder(depth, false, x(0))) {
		t.Error("P10.1: Covers, of deep terms with variables")
	}
}

// TestWideTerms has many parts beside one another, and many variables.
func TestWideTerms(t *testing.T) {
	const many = 1 << 18
	var up, down []api.T
	for n := range many {
		up, down = append(up, x(n)), append(down, x(many-1-n))
	}
	expectGreat(t, "turned variables", f(up...), f(down...), 2)
	expectGreat(t, "turned variables, of unlike sizes", g(f(up...)), f(down...), 1)
	expectGreat(t, "turned variables, of unlike symbols", h(f(up...)), g(f(down...)), 1)
	expectGreat(t, "turned variables behind what is greater", f(d, f(up...)), f(c, f(down...)), 1)
	expectGreat(t, "a part more", f(append(slices.Clone(up), c)...), f(down...), 1)
	late := append(slices.Clone(up), c)
	expectGreat(t, "the last part", f(append(slices.Clone(up), d)...), f(late...), 1)
	expectGreat(t, "the last part, a variable", f(append(slices.Clone(up), x(many))...), f(late...), 2)
	if !Covers(f(up...), f(down...)) || !Covers(f(down...), f(up...)) || Covers(f(up[1:]...), f(down...)) || Covers(f(up...), f(append(down, x(7))...)) {
		t.Error("P10.1: Covers, of many variables")
	}
}

// read makes a term of bytes: each is a head and a number of parts.
func read(b []byte, depth int) (api.T, []byte) {
	if len(b) == 0 {
		return api.T{}, nil
	}
	head := int(b[0])
	t := api.T{F: head%8 - 4}
	b = b[1:]
	if depth > 0 {
		for range head / 8 % 4 {
			var part api.T
			part, b = read(b, depth-1)
			t.L = append(t.L, part)
		}
	}
	return t, b
}

func FuzzTerms(f *testing.F) {
	f.Add([]byte{})
	f.Add([]byte{22, 3, 5, 22, 5, 3, 12, 3})
	f.Add([]byte{22, 3, 3, 22, 3, 2, 14, 3, 14, 2, 22, 2, 3})
	f.Add([]byte{31, 12, 3, 2, 5, 31, 3, 12, 2, 6, 31, 2, 3, 4, 8, 19, 9})
	f.Fuzz(func(t *testing.T, b []byte) {
		if len(b) > 80 {
			t.Skip()
		}
		var terms []api.T
		for len(b) > 0 && len(terms) < 6 {
			var u api.T
			u, b = read(b, 4)
			terms = append(terms, u)
		}
		for _, u := range terms {
			for _, v := range terms {
				expectFollows(t, u, v, terms)
			}
		}
	})
}

// expectFollows holds two terms against the chapter's words, and what follows
// if one of them is greater: behind others, within one, and with them put in.
func expectFollows(t *testing.T, u, v api.T, others []api.T) {
	t.Helper()
	order := expectPlain(t, u, v)
	if order != 1 {
		return
	}
	for _, w := range others {
		if Greater(v, w) && !Greater(u, w) {
			t.Fatalf("P10.2: %v, %v and %v, each greater than the next", u, v, w)
		}
		if !Greater(symbol(3, w, u, w), symbol(3, w, v, w)) {
			t.Fatalf("P10.2: beside %v %v is not greater than %v", w, u, v)
		}
		put := []api.T{w, x(2), v, u}
		if !Greater(filled(u, put), filled(v, put)) {
			t.Fatalf("P10.2: with %v put in %v is not greater than %v", put, u, v)
		}
	}
}
