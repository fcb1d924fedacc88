package order

import (
	"math"
	"reflect"
	"slices"
	"strconv"
	"strings"
	"testing"

	"sorites/api"
	"sorites/kbo"
)

func symbol(f int, list ...api.T) api.T { return api.T{F: f, L: list} }

func x(n int) api.T { return api.T{F: -1 - n} }

// loaded is a variable with parts, which count for nothing.
func loaded(n int) api.T {
	return api.T{F: -1 - n, L: []api.T{symbol(1), x(0), symbol(7, x(1), x(5))}}
}

// endless is a variable within itself: who goes through its parts never ends.
func endless(n int) api.T {
	t := api.T{F: -1 - n, L: make([]api.T, 1)}
	t.L[0] = t
	return t
}

var (
	truth = symbol(0)
	c     = symbol(1)
	d     = symbol(2)
	p     = symbol(6)
	q     = symbol(7)
)

func g(t api.T) api.T { return symbol(3, t) }

func f(list ...api.T) api.T { return symbol(4, list...) }

func h(t api.T) api.T { return symbol(5, t) }

func list(terms ...api.T) []api.T { return terms }

func eq(a, b api.T) api.Lit { return api.Lit{A: a, B: b} }

func ne(a, b api.T) api.Lit { return api.Lit{Neg: true, A: a, B: b} }

func holds(a api.T) api.Lit { return eq(a, truth) }

func fails(a api.T) api.Lit { return ne(a, truth) }

func of(list ...api.Lit) api.Clause { return list }

func flipped(l api.Lit) api.Lit { return api.Lit{Neg: l.Neg, A: l.B, B: l.A} }

// text tells all of a term but for what counts for nothing.
func text(t api.T) string {
	if t.F < 0 {
		return "x" + strconv.Itoa(-1-t.F)
	}
	var parts []string
	for _, part := range t.L {
		parts = append(parts, text(part))
	}
	return strconv.Itoa(t.F) + "(" + strings.Join(parts, " ") + ")"
}

func texts(terms []api.T) []string {
	var all []string
	for _, t := range terms {
		all = append(all, text(t))
	}
	return all
}

// bare: no variable has parts.
func bare(t api.T) bool {
	return (t.F >= 0 || len(t.L) == 0) && !slices.ContainsFunc(t.L, func(u api.T) bool { return !bare(u) })
}

// What follows goes by the chapter's words, on texts.

// leftByWords is what is left of a list when of terms that are the same as many
// as both have were taken off: of each the ones beyond what the other one has.
func leftByWords(a, b []api.T) []api.T {
	there := map[string]int{}
	for _, t := range b {
		there[text(t)]++
	}
	var left []api.T
	for _, t := range a {
		there[text(t)]--
		if there[text(t)] < 0 {
			left = append(left, t)
		}
	}
	return left
}

func multiByWords(a, b []api.T) bool {
	left, right := leftByWords(a, b), leftByWords(b, a)
	for _, less := range right {
		found := false
		for _, t := range left {
			found = found || kbo.Greater(t, less)
		}
		if !found {
			return false
		}
	}
	return len(left) > 0
}

func termsByWords(l api.Lit) []api.T {
	if !l.Neg {
		return []api.T{l.A, l.B}
	}
	return []api.T{l.A, l.A, l.B, l.B}
}

func greaterByWords(a, b api.Lit) bool { return multiByWords(termsByWords(a), termsByWords(b)) }

func greatestByWords(c api.Clause, i int) bool {
	for n, l := range c {
		if n != i && greaterByWords(l, c[i]) {
			return false
		}
	}
	return true
}

func sizeByWords(t api.T) int {
	size := 1
	if t.F >= 0 {
		for _, part := range t.L {
			size += sizeByWords(part)
		}
	}
	return size
}

func lookedByWords(c api.Clause) []int {
	var neg, all []int
	for n, l := range c {
		if l.Neg {
			neg = append(neg, n)
		}
		if greatestByWords(c, n) {
			all = append(all, n)
		}
	}
	if len(neg) == 0 {
		return all
	}
	weight := func(n int) int { return sizeByWords(c[n].A) + sizeByWords(c[n].B) }
	slices.SortStableFunc(neg, func(a, b int) int { return weight(b) - weight(a) })
	return neg[:1]
}

func orientByWords(l api.Lit) [][]string {
	var pairs [][]string
	if order := kbo.Compare(l.A, l.B); order == 1 || order == 2 {
		pairs = append(pairs, texts(list(l.A, l.B)))
	}
	if order := kbo.Compare(l.B, l.A); order == 1 || order == 2 {
		pairs = append(pairs, texts(list(l.B, l.A)))
	}
	return pairs
}

// image has all of what is handed in to hold against, with what lies in a
// variable's list, and in the room behind a list.
type image struct {
	head  int
	items int
	all   []image
}

func imageOfTerm(t api.T) image {
	i := imageOfList(t.L)
	i.head = t.F
	return i
}

func imageOfList(terms []api.T) image {
	var all []image
	for _, t := range terms[:cap(terms)] {
		all = append(all, imageOfTerm(t))
	}
	return image{0, len(terms), all}
}

func imageOfLit(l api.Lit) image {
	i := imageOfList(list(l.A, l.B))
	if l.Neg {
		i.head = 1
	}
	return i
}

func imageOf(c api.Clause) image {
	var all []image
	for _, l := range c[:cap(c)] {
		all = append(all, imageOfLit(l))
	}
	return image{0, len(c), all}
}

func unchanged(t *testing.T, now, was image) {
	t.Helper()
	if !reflect.DeepEqual(now, was) {
		t.Fatalf("R4: %v became %v", was, now)
	}
}

// memory counts how often each piece of memory is a part's, with what a list
// has to spare.
type memory map[*api.T]int

func (m memory) addList(terms []api.T) {
	whole := terms[:cap(terms)]
	for n := range whole {
		m[&whole[n]]++
	}
	for _, t := range terms {
		m.addList(t.L)
	}
}

func (m memory) addPairs(pairs [][2]api.T) {
	whole := pairs[:cap(pairs)]
	for n := range whole {
		m[&whole[n][0]]++
		m[&whole[n][1]]++
	}
	for _, pair := range pairs {
		m.addList(pair[0].L)
		m.addList(pair[1].L)
	}
}

// expectNew holds that no two lists of what is told share memory, nor one of
// them with the literal.
func expectNew(t *testing.T, call string, own memory, l api.Lit) {
	t.Helper()
	other := memory{}
	other.addList(l.A.L)
	other.addList(l.B.L)
	for piece, count := range own {
		if count > 1 || other[piece] > 0 {
			t.Fatalf("R4: what %s of %v tells shares memory", call, l)
		}
	}
}

func expectTerms(t *testing.T, l api.Lit, want []api.T) {
	t.Helper()
	was := imageOfLit(l)
	got := Terms(l)
	if !slices.Equal(texts(got), texts(want)) || slices.ContainsFunc(got, func(u api.T) bool { return !bare(u) }) {
		t.Fatalf("P14.1: Terms(%v) = %v, want %v", l, got, want)
	}
	own := memory{}
	own.addList(got)
	expectNew(t, "Terms", own, l)
	unchanged(t, imageOfLit(l), was)
}

// expectMulti holds what is told of two lists, both ways round.
func expectMulti(t *testing.T, name string, a, b []api.T, there, back bool) {
	t.Helper()
	aWas, bWas := imageOfList(a), imageOfList(b)
	if got := Multi(a, b); got != there {
		t.Fatalf("P14.1: %s: Multi(%v, %v) = %v", name, a, b, got)
	}
	if got := Multi(b, a); got != back {
		t.Fatalf("P14.1: %s: Multi(%v, %v) = %v", name, b, a, got)
	}
	unchanged(t, imageOfList(a), aWas)
	unchanged(t, imageOfList(b), bWas)
}

// expectGreater holds what is told of two literals, both ways round, and with
// their sides turned around, which must change nothing.
func expectGreater(t *testing.T, name string, a, b api.Lit, there, back bool) {
	t.Helper()
	aWas, bWas := imageOfLit(a), imageOfLit(b)
	for _, u := range of(a, flipped(a)) {
		for _, v := range of(b, flipped(b)) {
			if got := Greater(u, v); got != there {
				t.Fatalf("P14.1: %s: Greater(%v, %v) = %v", name, u, v, got)
			}
			if got := Greater(v, u); got != back {
				t.Fatalf("P14.1: %s: Greater(%v, %v) = %v", name, v, u, got)
			}
		}
	}
	unchanged(t, imageOfLit(a), aWas)
	unchanged(t, imageOfLit(b), bWas)
}

// beyond are places that a clause has none at.
func beyond(c api.Clause) []int {
	return []int{-1, -2, math.MinInt, len(c), len(c) + 1, cap(c), cap(c) + 1, math.MaxInt}
}

// expectGreatest holds which literals are greatest, and that none is that there isn't.
func expectGreatest(t *testing.T, name string, c api.Clause, want []int) {
	t.Helper()
	was := imageOf(c)
	for n := range c {
		if got := Greatest(c, n); got != slices.Contains(want, n) {
			t.Fatalf("P14.2: %s: Greatest(%v, %d) = %v", name, c, n, got)
		}
	}
	for _, n := range beyond(c) {
		if Greatest(c, n) {
			t.Fatalf("P14.2: %s: Greatest(%v, %d), which there isn't", name, c, n)
		}
	}
	unchanged(t, imageOf(c), was)
}

func expectLooked(t *testing.T, name string, c api.Clause, want []int) {
	t.Helper()
	was := imageOf(c)
	if got := Looked(c); !slices.Equal(got, want) {
		t.Fatalf("P14.2: %s: Looked(%v) = %v, want %v", name, c, got, want)
	}
	if len(c) > 0 && len(want) == 0 {
		t.Fatalf("P14.3: %s: of %v none is looked at", name, c)
	}
	unchanged(t, imageOf(c), was)
}

func expectOrient(t *testing.T, name string, l api.Lit, want [][]string) {
	t.Helper()
	was := imageOfLit(l)
	pairs := Orient(l)
	var got [][]string
	for _, pair := range pairs {
		got = append(got, texts(pair[:]))
		if !bare(pair[0]) || !bare(pair[1]) {
			t.Fatalf("P14.2: %s: Orient(%v) tells parts of variables: %v", name, l, pairs)
		}
	}
	if !reflect.DeepEqual(got, want) {
		t.Fatalf("P14.2: %s: Orient(%v) = %v, want %v", name, l, got, want)
	}
	own := memory{}
	own.addPairs(pairs)
	expectNew(t, "Orient", own, l)
	unchanged(t, imageOfLit(l), was)
}

// expectByWords holds all that is told of a clause against the chapter's words.
func expectByWords(t *testing.T, c api.Clause) {
	t.Helper()
	var greatest []int
	for n, l := range c {
		if greatestByWords(c, n) {
			greatest = append(greatest, n)
		}
		expectTerms(t, l, termsByWords(l))
		expectOrient(t, "by the words", l, orientByWords(l))
	}
	expectGreatest(t, "by the words", c, greatest)
	expectLooked(t, "by the words", c, lookedByWords(c))
}

func TestExample(t *testing.T) {
	expectLooked(t, "the chapter's example", of(holds(p), fails(q)), []int{1})
	expectLooked(t, "the chapter's example, with p and q changed", of(holds(q), fails(p)), []int{1})
	expectByWords(t, of(holds(p), fails(q)))
}

func TestTerms(t *testing.T) {
	for _, k := range []struct {
		l    api.Lit
		want []api.T
	}{
		{eq(c, d), list(c, d)},
		{eq(d, c), list(d, c)},
		{ne(c, d), list(c, c, d, d)},
		{ne(d, c), list(d, d, c, c)},
		{eq(c, c), list(c, c)},
		{ne(c, c), list(c, c, c, c)},
		{holds(p), list(p, truth)},
		{fails(p), list(p, p, truth, truth)},
		{api.Lit{}, list(truth, truth)},
		{api.Lit{Neg: true}, list(truth, truth, truth, truth)},
		{eq(x(0), g(x(1))), list(x(0), g(x(1)))},
		{ne(f(x(0), g(c)), x(0)), list(f(x(0), g(c)), f(x(0), g(c)), x(0), x(0))},
		{ne(f(c, f(d, x(3))), f(c, f(d, x(3)))), slices.Repeat(list(f(c, f(d, x(3)))), 4)},
		{eq(loaded(2), g(loaded(0))), list(x(2), g(x(0)))},
		{eq(api.T{F: math.MinInt}, api.T{F: math.MaxInt}), list(api.T{F: math.MinInt}, api.T{F: math.MaxInt})},
	} {
		expectTerms(t, k.l, k.want)
	}
}

func TestKnownLists(t *testing.T) {
	for _, k := range []struct {
		name        string
		a, b        []api.T
		there, back bool
	}{
		{"nil both", nil, nil, false, false},
		{"no terms both", list(), []api.T{}, false, false},
		{"nil and no terms", nil, []api.T{}, false, false},
		{"a term and none", list(c), nil, true, false},
		{"the least term and none", list(truth), []api.T{}, true, false},
		{"a variable and none", list(x(0)), nil, true, false},
		{"many terms and none", list(x(0), c, x(0), x(1)), nil, true, false},
		{"the same", list(c), list(c), false, false},
		{"the same variable", list(x(0)), list(x(0)), false, false},
		{"the same, many", list(c, d, x(0), g(x(0))), list(c, d, x(0), g(x(0))), false, false},
		{"the same but for their order", list(c, d, x(0), c), list(x(0), c, c, d), false, false},
		{"the same, turned around", list(g(c), d, c), list(c, d, g(c)), false, false},
		{"one that is greater", list(d), list(c), true, false},
		{"one of the greater size", list(g(c)), list(d), true, false},
		{"one that can't be held against", list(x(0)), list(c), false, false},
		{"one variable and another", list(x(0)), list(x(1)), false, false},
		{"more often", list(c, c), list(c), true, false},
		{"more often, a variable", list(x(0), x(0), x(0)), list(x(0), x(0)), true, false},
		{"more often, the greater one", list(d, d, c), list(d, c, c), true, false},
		{"more often, the greater one less often", list(c, c, c, d), list(d, d), false, true},
		{"more often in one, another one in the other, neither", list(x(0), x(0), x(1)), list(x(0), x(1), x(1)), false, false},
		{"more often, amid others", list(c, x(1), d, x(1)), list(d, x(1), c), true, false},
		{"one above many", list(d), list(c, c, c, c, c), true, false},
		{"one above many, with one of them", list(d, c), list(c, c, c), true, false},
		{"one above unlike ones", list(f(x(0), x(1))), list(x(0), x(1), c, d, g(x(0)), g(x(1))), true, false},
		{"one above all but one", list(f(x(0), x(1))), list(x(0), x(2), c), false, false},
		{"one above all but the first", list(g(x(0))), list(x(1), x(0), c), false, false},
		{"one above all but the last", list(g(x(0))), list(x(0), c, x(1)), false, false},
		{"each above another one", list(g(x(0)), g(x(1))), list(x(1), x(0)), true, false},
		{"each above another one, and one too many", list(g(x(0)), g(x(1))), list(x(1), x(2), x(0)), false, false},
		{"one above all, beside what is above none", list(truth, x(5), g(c)), list(d, d, c), true, false},
		{"many below one", list(c, c, c, d, d), list(g(c)), false, true},
		{"what is shared is above, what is left is not", list(g(c), c), list(g(c), d), false, true},
		{"what is shared is above, what is left can't be held against", list(g(c), x(0)), list(d, g(c)), false, false},
		{"what is shared is above a variable", list(g(x(0)), c), list(g(x(0)), x(0)), false, false},
		{"what is shared is above, nothing is left", list(g(c)), list(d, g(c)), false, true},
		{"once shared, once left", list(g(c), g(c)), list(g(c), d, d), true, false},
		{"once shared, once left, on the other side", list(g(c), d), list(g(c), g(c)), false, true},
		{"twice shared, once left", list(g(c), c, g(c), g(c)), list(d, g(c), g(c)), true, false},
		{"shared at the ends", list(x(0), d, x(1)), list(x(1), c, x(0)), true, false},
		{"shared, with variables", list(x(0), d), list(x(0), c), true, false},
		{"of unlike places", list(c, g(x(0)), d), list(d, c, x(0)), true, false},
		{"a variable with parts and one without", list(loaded(0)), list(x(0)), false, false},
		{"variables with parts, and one more", list(loaded(0), x(0)), list(x(0)), true, false},
		{"a variable with parts and one of its parts", list(loaded(2)), list(c), false, false},
		{"variables with parts are shared", list(loaded(0), g(loaded(1)), d), list(g(x(1)), c, x(0)), true, false},
		{"a variable with parts is less than a term with it", list(g(x(3))), list(loaded(3), loaded(3)), true, false},
		{"no parts, nil and empty", list(c), list(api.T{F: 1, L: []api.T{}}), false, false},
		{"unlike numbers of parts", list(f(c, c)), list(f(g(c)), f(g(c))), true, false},
		{"the same symbol with parts and without", list(f(), f(c)), list(f(c), f(c)), false, true},
		{"numbers at the ends", list(api.T{F: math.MaxInt}, api.T{F: math.MinInt}), list(api.T{F: math.MinInt}, api.T{F: math.MaxInt - 1}), true, false},
	} {
		expectMulti(t, k.name, k.a, k.b, k.there, k.back)
		if there, back := multiByWords(k.a, k.b), multiByWords(k.b, k.a); there != k.there || back != k.back {
			t.Errorf("%s: by the words %v, %v", k.name, there, back)
		}
	}
}

func TestKnownLiterals(t *testing.T) {
	for _, k := range []struct {
		name        string
		a, b        api.Lit
		there, back bool
	}{
		{"nothing", api.Lit{}, api.Lit{}, false, false},
		{"nothing, and Neg", api.Lit{Neg: true}, api.Lit{}, true, false},
		{"the same", eq(c, d), eq(c, d), false, false},
		{"the same, Neg", ne(c, d), ne(c, d), false, false},
		{"the same sides, one Neg", ne(c, d), eq(c, d), true, false},
		{"the same variables, one Neg", ne(x(0), x(1)), eq(x(0), x(1)), true, false},
		{"both sides the same", eq(c, c), eq(c, c), false, false},
		{"both sides the same, one Neg", ne(c, c), eq(c, c), true, false},
		{"both sides the same, and one greater", eq(c, d), eq(c, c), true, false},
		{"both sides the same, of a greater term", eq(d, d), eq(c, d), true, false},
		{"both sides the same variable, one Neg", ne(x(0), x(0)), eq(x(0), x(0)), true, false},
		{"both sides the same variable, and another", eq(x(0), x(0)), eq(x(0), x(1)), false, false},
		{"both sides the same variable, and another, Neg", ne(x(0), x(0)), eq(x(0), x(1)), false, false},
		{"a greater side", eq(g(c), c), eq(d, c), true, false},
		{"a greater side beats Neg", eq(g(c), c), ne(d, d), true, false},
		{"a greater side beats Neg, with a side shared", eq(g(c), c), ne(d, c), true, false},
		{"Neg beats what is left", ne(g(c), c), eq(g(c), d), true, false},
		{"Neg of the shared side, the other one greater", ne(g(c), truth), eq(g(c), f(c)), false, true},
		{"both Neg, a greater side", ne(d, c), ne(c, truth), true, false},
		{"both Neg, neither", ne(x(0), c), ne(x(1), c), false, false},
		{"a side shared, the other neither", eq(x(0), c), eq(x(0), x(1)), false, false},
		{"a side shared, the other greater", eq(x(0), g(x(1))), eq(x(1), x(0)), true, false},
		{"each side above another one", eq(g(x(0)), h(x(1))), eq(x(1), x(0)), true, false},
		{"one side above both", eq(f(x(0), x(1)), truth), eq(x(1), x(0)), true, false},
		{"one side above one alone", eq(g(x(0)), truth), eq(x(1), x(0)), false, false},
		{"the atoms p and q", holds(q), holds(p), true, false},
		{"the atoms p and ~p", fails(p), holds(p), true, false},
		{"the atoms q and ~p", holds(q), fails(p), true, false},
		{"atoms with variables", holds(symbol(6, x(0))), holds(symbol(6, x(1))), false, false},
		{"variables with parts", eq(loaded(0), g(loaded(1))), eq(x(0), g(x(1))), false, false},
		{"variables with parts, one Neg", ne(loaded(0), loaded(0)), eq(x(0), x(0)), true, false},
		{"variables with parts are of size 1", eq(g(x(4)), c), eq(loaded(4), c), true, false},
	} {
		expectGreater(t, k.name, k.a, k.b, k.there, k.back)
		if there, back := greaterByWords(k.a, k.b), greaterByWords(k.b, k.a); there != k.there || back != k.back {
			t.Errorf("%s: by the words %v, %v", k.name, there, back)
		}
	}
}

func TestKnownClauses(t *testing.T) {
	for _, k := range []struct {
		name             string
		c                api.Clause
		greatest, looked []int
	}{
		{"nil", nil, nil, nil},
		{"no literals", api.Clause{}, nil, nil},
		{"no literals, with room", make(api.Clause, 0, 3), nil, nil},
		{"one", of(eq(c, d)), []int{0}, []int{0}},
		{"one, Neg", of(ne(c, d)), []int{0}, []int{0}},
		{"one, of nothing", of(api.Lit{}), []int{0}, []int{0}},
		{"one, of sides that are the same", of(ne(x(0), x(0))), []int{0}, []int{0}},
		{"two that are the same", of(eq(c, d), eq(c, d)), []int{0, 1}, []int{0, 1}},
		{"two that are the same, turned around", of(eq(c, d), eq(d, c)), []int{0, 1}, []int{0, 1}},
		{"two that are the same, Neg", of(ne(c, d), ne(c, d)), []int{0, 1}, []int{0}},
		{"many that are the same", of(holds(p), holds(p), holds(p), holds(p)), []int{0, 1, 2, 3}, []int{0, 1, 2, 3}},
		{"the same twice, below another one", of(holds(p), holds(q), holds(p)), []int{1}, []int{1}},
		{"the same twice, above another one", of(holds(q), holds(p), holds(q)), []int{0, 2}, []int{0, 2}},
		{"the first", of(eq(g(g(c)), c), eq(g(c), c), eq(d, c)), []int{0}, []int{0}},
		{"the last", of(eq(d, c), eq(g(c), c), eq(g(g(c)), c)), []int{2}, []int{2}},
		{"the middle one", of(eq(d, c), eq(g(g(c)), c), eq(g(c), c)), []int{1}, []int{1}},
		{"none can be held against another", of(eq(x(0), c), eq(x(1), c), eq(x(2), c)), []int{0, 1, 2}, []int{0, 1, 2}},
		{"one is less than the last", of(eq(g(x(0)), c), eq(x(1), c), eq(g(x(1)), c)), []int{0, 2}, []int{0, 2}},
		{"one is less than the first", of(eq(g(x(0)), c), eq(x(1), c), eq(x(0), c)), []int{0, 1}, []int{0, 1}},
		{"~p and p", of(holds(p), fails(p)), []int{1}, []int{1}},
		{"p and ~p", of(fails(p), holds(p)), []int{0}, []int{0}},
		{"Neg, though it is less", of(holds(q), fails(p)), []int{0}, []int{1}},
		{"Neg, though it is far less", of(ne(c, c), eq(f(d, d), g(g(d)))), []int{1}, []int{0}},
		{"Neg, at the end", of(eq(g(g(x(0))), c), eq(f(x(1), x(2)), d), ne(truth, truth)), []int{0, 1}, []int{2}},
		{"two Neg of one weight", of(ne(c, c), ne(d, d)), []int{1}, []int{0}},
		{"two Neg of one weight, turned", of(ne(d, d), ne(c, c)), []int{0}, []int{0}},
		{"two Neg of one weight on unlike sides", of(ne(c, g(d)), ne(g(c), c)), []int{0}, []int{0}},
		{"Neg of unlike weights, the first", of(ne(g(c), d), ne(c, d)), []int{0}, []int{0}},
		{"Neg of unlike weights, the last", of(ne(c, d), ne(g(c), d)), []int{1}, []int{1}},
		{"Neg of unlike weights, amid others", of(ne(c, d), eq(g(g(c)), c), ne(g(c), d)), []int{1}, []int{2}},
		{"the weight is of both sides", of(ne(g(g(c)), c), ne(g(d), f(c, c)), eq(c, c)), []int{1}, []int{1}},
		{"the weight, not the greater side", of(ne(g(g(c)), c), ne(g(d), h(d)), ne(d, g(g(d)))), []int{2}, []int{0}},
		{"several of the greatest weight", of(ne(c, c), ne(g(x(0)), c), ne(x(1), g(c)), eq(c, c), ne(c, g(d))), []int{1, 2, 4}, []int{1}},
		{"a variable with parts weighs 1", of(ne(loaded(0), c), ne(g(x(0)), c)), []int{1}, []int{1}},
		{"variables with parts, none Neg", of(eq(loaded(0), c), eq(g(x(0)), c), eq(loaded(1), c)), []int{1, 2}, []int{1, 2}},
		{"sides that are the same", of(eq(x(0), x(0)), eq(c, c), eq(d, d)), []int{0, 2}, []int{0, 2}},
	} {
		expectGreatest(t, k.name, k.c, k.greatest)
		expectLooked(t, k.name, k.c, k.looked)
		expectByWords(t, k.c)
	}
}

func TestKnownOrients(t *testing.T) {
	for _, k := range []struct {
		name string
		a, b api.T
		want [][]api.T
	}{
		{"nothing", api.T{}, api.T{}, nil},
		{"the same", c, c, nil},
		{"the same, with parts", f(x(0), g(c)), f(x(0), g(c)), nil},
		{"the same variable", x(0), x(0), nil},
		{"the same variable, with parts and without", loaded(0), x(0), nil},
		{"the same but for a variable's parts", g(loaded(0)), g(x(0)), nil},
		{"A is greater", d, c, [][]api.T{{d, c}}},
		{"B is greater", c, d, [][]api.T{{d, c}}},
		{"A is of the greater size", f(x(0), x(1)), x(1), [][]api.T{{f(x(0), x(1)), x(1)}}},
		{"B is of the greater size", c, g(c), [][]api.T{{g(c), c}}},
		{"an atom", p, truth, [][]api.T{{p, truth}}},
		{"an atom turned around", truth, p, [][]api.T{{p, truth}}},
		{"a variable and a symbol", x(0), c, [][]api.T{{x(0), c}, {c, x(0)}}},
		{"two variables", x(1), x(0), [][]api.T{{x(1), x(0)}, {x(0), x(1)}}},
		{"neither, turned variables", f(x(0), x(1)), f(x(1), x(0)), [][]api.T{{f(x(0), x(1)), f(x(1), x(0))}, {f(x(1), x(0)), f(x(0), x(1))}}},
		{"neither, unlike sizes", x(1), f(x(0), g(c)), [][]api.T{{x(1), f(x(0), g(c))}, {f(x(0), g(c)), x(1)}}},
		{"neither, variables with parts", loaded(1), g(loaded(0)), [][]api.T{{x(1), g(x(0))}, {g(x(0)), x(1)}}},
		{"greater, variables with parts", loaded(0), g(loaded(0)), [][]api.T{{g(x(0)), x(0)}}},
	} {
		var want [][]string
		for _, pair := range k.want {
			want = append(want, texts(pair))
		}
		for _, l := range of(eq(k.a, k.b), ne(k.a, k.b)) {
			expectOrient(t, k.name, l, want)
			if words := orientByWords(l); !reflect.DeepEqual(words, want) {
				t.Errorf("%s: by the words %v", k.name, words)
			}
		}
	}
}

// TestVariablesWithinThemselves: what has no end is not gone through.
func TestVariablesWithinThemselves(t *testing.T) {
	y, z := endless(0), endless(1)
	if got, want := texts(Terms(ne(y, f(z, c)))), texts(list(x(0), x(0), f(x(1), c), f(x(1), c))); !slices.Equal(got, want) {
		t.Errorf("P14.1: Terms = %v, want %v", got, want)
	}
	if Multi(list(y), list(x(0))) || Multi(list(y), list(z)) || !Multi(list(g(x(0)), z), list(y, x(1))) {
		t.Error("P14.1: Multi")
	}
	if Greater(eq(y, z), eq(x(1), x(0))) || !Greater(ne(y, z), eq(x(1), x(0))) {
		t.Error("P14.1: Greater")
	}
	if got := Looked(of(eq(y, c), eq(g(x(0)), c), eq(z, c))); !slices.Equal(got, []int{1, 2}) {
		t.Errorf("P14.2: Looked = %v", got)
	}
	if got := Looked(of(ne(y, c), ne(g(z), c), ne(z, c))); !slices.Equal(got, []int{1}) {
		t.Errorf("P14.2: Looked, of Neg ones = %v", got)
	}
	if pairs := Orient(eq(y, g(z))); len(pairs) != 2 || text(pairs[0][0]) != "x0" || text(pairs[0][1]) != "3(x1)" {
		t.Errorf("P14.2: %d pairs of Orient", len(pairs))
	}
	if len(Orient(eq(y, x(0)))) != 0 || len(Orient(eq(y, g(y)))) != 1 {
		t.Error("P14.2: Orient of one variable")
	}
}

// rows has every list of at most so many of some.
func rows[T any](most int, of []T) [][]T {
	all := [][]T{nil}
	from := 0
	for range most {
		upto := len(all)
		for _, row := range all[from:upto] {
			for _, item := range of {
				all = append(all, append(slices.Clone(row), item))
			}
		}
		from = upto
	}
	return all
}

func TestEveryPairOfShortLists(t *testing.T) {
	seen := map[[2]bool]int{}
	short := rows(3, list(x(0), loaded(1), c, d, g(x(0)), f(x(1), x(0))))
	for _, a := range short {
		for _, b := range short {
			there, back := multiByWords(a, b), multiByWords(b, a)
			if Multi(a, b) != there {
				t.Fatalf("P14.1: Multi(%v, %v) = %v", a, b, !there)
			}
			seen[[2]bool{there, back}]++
		}
	}
	if seen[[2]bool{true, true}] > 0 || seen[[2]bool{true, false}] < 1000 || seen[[2]bool{false, false}] < 1000 {
		t.Errorf("of short lists these were seen: %v", seen)
	}
}

// literals has all literals of some terms.
func literals(terms ...api.T) []api.Lit {
	var all []api.Lit
	for _, a := range terms {
		for _, b := range terms {
			all = append(all, eq(a, b), ne(a, b))
		}
	}
	return all
}

func TestEveryPairOfSmallLiterals(t *testing.T) {
	small := literals(x(0), x(1), truth, c, g(x(0)), loaded(2), g(c), f(x(0), x(1)))
	for _, a := range small {
		expectByWords(t, of(a))
		for _, b := range small {
			if got := Greater(a, b); got != greaterByWords(a, b) {
				t.Fatalf("P14.1: Greater(%v, %v) = %v", a, b, got)
			}
			if got := Multi(Terms(a), Terms(b)); got != Greater(a, b) {
				t.Fatalf("P14.1: Multi of the terms of %v and %v = %v", a, b, got)
			}
		}
	}
}

func TestEverySmallClause(t *testing.T) {
	small := append(literals(x(0), c, g(x(1))), eq(x(1), c), eq(g(x(0)), x(1)), ne(g(x(0)), c), holds(p), fails(p))
	for _, c := range rows(3, small) {
		if got, want := Looked(c), lookedByWords(c); !slices.Equal(got, want) {
			t.Fatalf("P14.2: Looked(%v) = %v, want %v", c, got, want)
		}
		for n := range c {
			if got := Greatest(c, n); got != greatestByWords(c, n) {
				t.Fatalf("P14.2: Greatest(%v, %d) = %v", c, n, got)
			}
		}
	}
}

// TestRoomBehindLists hands in lists with room behind them in which something
// lies: it is neither asked nor changed.
func TestRoomBehindLists(t *testing.T) {
	room := list(g(c), c, d, x(0), f(c, d), c)
	for n := range room {
		for m := range room {
			a, b := room[:n], room[m:]
			expectMulti(t, "with room", a, b, multiByWords(a, b), multiByWords(b, a))
			expectMulti(t, "of one list", a, room[:m], n > m, n < m)
		}
	}
	many := of(holds(p), holds(p), eq(x(0), c), fails(q), holds(q), fails(p))
	for n := range many {
		for m := range n {
			expectByWords(t, many[m:n])
			expectByWords(t, many[m:n:n])
		}
	}
	parts := list(x(0), c, g(x(1)), loaded(2), d)
	for n := range parts {
		expectByWords(t, of(eq(f(parts[:n]...), f(parts[n:]...)), ne(f(parts[:n]...), f(parts[:2]...))))
	}
}

// TestNothingIsKept asks the same things again, behind others and behind what
// was done to what they told.
func TestNothingIsKept(t *testing.T) {
	l, clause := ne(g(x(0)), f(x(1), c)), of(eq(x(0), c), eq(g(x(0)), c), eq(x(1), c))
	for _, other := range literals(x(0), c, g(x(1)), f(x(1), c)) {
		expectTerms(t, l, list(g(x(0)), g(x(0)), f(x(1), c), f(x(1), c)))
		expectOrient(t, "behind others", l, [][]string{texts(list(l.A, l.B)), texts(list(l.B, l.A))})
		expectLooked(t, "behind others", clause, []int{1, 2})
		told, pairs, places := Terms(l), Orient(l), Looked(clause)
		told[0].L[0], told[2].L[1], pairs[0][0].L[0], pairs[1][0] = other.A, other.B, other.A, other.B
		places[0] = 7
		Looked(of(other, l))
		Greater(other, l)
	}
}

func TestNumbersAtTheirEnds(t *testing.T) {
	ends := []int{math.MinInt, math.MinInt + 1, -2 - 1<<30, -2, -1, 0, 1, 1<<31 - 1, math.MaxInt - 1, math.MaxInt}
	for _, a := range ends {
		for _, b := range ends {
			for _, e := range ends {
				s, u, v := api.T{F: a}, api.T{F: b, L: list(api.T{F: e})}, api.T{F: e, L: list(api.T{F: a}, api.T{F: b})}
				expectByWords(t, of(eq(s, u), ne(u, v), eq(v, s)))
				expectByWords(t, of(eq(s, u), eq(u, v), eq(v, s)))
				there, back := multiByWords(list(s, u), list(u, v)), multiByWords(list(u, v), list(s, u))
				expectMulti(t, "at the ends", list(s, u), list(u, v), there, back)
			}
		}
	}
}

func chain(depth int, end api.T) api.T {
	for range depth {
		end = g(end)
	}
	return end
}

// TestDeepTerms goes to the bound on parts nested in one another.
func TestDeepTerms(t *testing.T) {
	const depth = 1 << 16
	deep, deeper, other := chain(depth-1, x(0)), chain(depth, x(0)), chain(depth, x(1))
	if !Multi(list(deeper, c), list(c, deep, deep)) || Multi(list(deep, deep), list(deeper)) || Multi(list(deeper), list(other)) {
		t.Error("P14.1: Multi of deep terms")
	}
	if !Greater(eq(deeper, c), ne(deep, c)) || Greater(eq(deeper, other), eq(other, deeper)) || !Greater(ne(deeper, c), eq(c, chain(depth, x(0)))) {
		t.Error("P14.1: Greater of deep terms")
	}
	if got := Looked(of(eq(deep, c), eq(deeper, c), eq(other, c))); !slices.Equal(got, []int{1, 2}) {
		t.Errorf("P14.2: Looked of deep terms: %v", got)
	}
	if got := Looked(of(ne(deep, c), ne(c, deeper), ne(other, c))); !slices.Equal(got, []int{1}) {
		t.Errorf("P14.2: Looked of deep Neg terms: %v", got)
	}
	if len(Orient(eq(deeper, other))) != 2 || len(Orient(eq(deep, deeper))) != 1 || len(Orient(eq(deep, chain(depth-1, x(0))))) != 0 {
		t.Error("P14.2: Orient of deep terms")
	}
	if got := Terms(ne(deep, deeper)); len(got) != 4 {
		t.Errorf("P14.1: %d Terms of deep ones", len(got))
	}
}

// TestLongLists has lists and clauses that are longer than those of a source.
func TestLongLists(t *testing.T) {
	const many = 2000
	var up, down []api.T
	var apart, row, neg api.Clause
	for n := range many {
		up, down = append(up, g(x(n))), append(down, g(x(many-1-n)))
		apart, row = append(apart, eq(g(x(n)), c)), append(row, eq(symbol(n), truth))
		neg = append(neg, ne(x(n), c))
	}
	if Multi(up, down) || Multi(down, up) || !Multi(append(up, c), down) || Multi(up, append(down, c)) {
		t.Error("P14.1: Multi of long lists that are the same but for their order")
	}
	if !Multi(slices.Repeat(list(c), many), slices.Repeat(list(c), many-1)) || Multi(slices.Repeat(list(c), many), slices.Repeat(list(c), many)) {
		t.Error("P14.1: Multi of one term, many times")
	}
	if !Multi(list(d), slices.Repeat(list(c), many)) || Multi(slices.Repeat(list(c), many), list(d)) {
		t.Error("P14.1: Multi of one above many")
	}
	if got := Looked(row); !slices.Equal(got, []int{many - 1}) {
		t.Errorf("P14.2: Looked of a row: %v", got)
	}
	if got := Looked(apart[:many/2]); len(got) != many/2 || !slices.IsSorted(got) {
		t.Errorf("P14.2: Looked of many of which none is greater: %d", len(got))
	}
	if got := Looked(append(neg, ne(g(c), c), ne(c, g(c)))); !slices.Equal(got, []int{many}) {
		t.Errorf("P14.2: Looked of many that are Neg: %v", got)
	}
}
