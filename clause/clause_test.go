package clause

import (
	"math"
	"reflect"
	"slices"
	"strconv"
	"strings"
	"testing"

	"sorites/api"
	"sorites/subst"
	"sorites/term"
)

func symbol(f int, list ...api.T) api.T { return api.T{F: f, L: list} }

func x(n int) api.T { return api.T{F: -1 - n} }

// loaded is a variable with parts, which count for nothing.
func loaded(n int) api.T {
	return api.T{F: -1 - n, L: []api.T{symbol(1), x(0), symbol(7, x(1), x(9))}}
}

var (
	truth = symbol(0)
	c     = symbol(1)
	d     = symbol(2)
)

func g(t api.T) api.T { return symbol(3, t) }

func f(list ...api.T) api.T { return symbol(4, list...) }

func p(list ...api.T) api.T { return symbol(5, list...) }

func eq(a, b api.T) api.Lit { return api.Lit{A: a, B: b} }

func ne(a, b api.T) api.Lit { return api.Lit{Neg: true, A: a, B: b} }

func of(list ...api.Lit) api.Clause { return list }

func text(t api.T) string {
	if t.F < 0 {
		return "x" + strconv.Itoa(-1-t.F)
	}
	var parts []string
	for _, part := range t.L {
		parts = append(parts, text(part))
	}
	return strconv.Itoa(t.F) + "(" + strings.Join(parts, " ") + ")"
}

func litText(l api.Lit) string {
	if l.Neg {
		return text(l.A) + " != " + text(l.B)
	}
	return text(l.A) + " = " + text(l.B)
}

// texts tells all of a clause but for what counts for nothing.
func texts(c api.Clause) string {
	var list []string
	for _, l := range c {
		list = append(list, litText(l))
	}
	return strings.Join(list, " | ")
}

// bare: no variable has parts.
func bare(t api.T) bool {
	return (t.F >= 0 || len(t.L) == 0) && !slices.ContainsFunc(t.L, func(u api.T) bool { return !bare(u) })
}

func bareLit(l api.Lit) bool { return bare(l.A) && bare(l.B) }

// image has all of a term or a clause to hold against, with what lies in a
// variable's list, and in the room behind a list.
type image struct {
	head  int
	items int
	all   []image
}

func imageOfTerm(t api.T) image {
	var all []image
	for _, part := range t.L[:cap(t.L)] {
		all = append(all, imageOfTerm(part))
	}
	return image{t.F, len(t.L), all}
}

func imageOfLit(l api.Lit) image {
	head := 0
	if l.Neg {
		head = 1
	}
	return image{head, 2, []image{imageOfTerm(l.A), imageOfTerm(l.B)}}
}

func imageOf(c api.Clause) image {
	var all []image
	for _, l := range c[:cap(c)] {
		all = append(all, imageOfLit(l))
	}
	return image{0, len(c), all}
}

func unchanged(t *testing.T, c api.Clause, was image) {
	t.Helper()
	if !reflect.DeepEqual(imageOf(c), was) {
		t.Fatalf("R4: what was handed in became %v", c)
	}
}

// memory counts how often each piece of memory is a literal's or a part's, with
// what a list has to spare.
type memory map[any]int

func (m memory) addTerm(t api.T) {
	whole := t.L[:cap(t.L)]
	for n := range whole {
		m[&whole[n]]++
	}
	for _, part := range t.L {
		m.addTerm(part)
	}
}

func (m memory) addClause(c api.Clause) {
	whole := c[:cap(c)]
	for n := range whole {
		m[&whole[n]]++
	}
	for _, l := range c {
		m.addTerm(l.A)
		m.addTerm(l.B)
	}
}

// expectNew holds that no two lists of what is told share memory, nor one of
// them with what was handed in.
func expectNew(t *testing.T, call string, told api.Clause, handedIn api.Clause, terms ...api.T) {
	t.Helper()
	own, other := memory{}, memory{}
	own.addClause(told)
	other.addClause(handedIn)
	for _, u := range terms {
		other.addTerm(u)
	}
	for piece, count := range own {
		if count > 1 || other[piece] > 0 {
			t.Fatalf("R4: what %s of %v tells shares memory: %v", call, handedIn, told)
		}
	}
}

// expectTold holds a clause that is told by its text, in variables that have no
// parts.
func expectTold(t *testing.T, call string, got api.Clause, want string) {
	t.Helper()
	if texts(got) != want || slices.ContainsFunc(got, func(l api.Lit) bool { return !bareLit(l) }) {
		t.Fatalf("%s = %v, want %s", call, got, want)
	}
}

// walk goes through a term in the order of places.
func walk(t api.T, visit func(t api.T)) {
	visit(t)
	if t.F >= 0 {
		for _, part := range t.L {
			walk(part, visit)
		}
	}
}

func walkAll(c api.Clause, visit func(t api.T)) {
	for _, l := range c {
		walk(l.A, visit)
		walk(l.B, visit)
	}
}

// changed is a term with something put for each of its variables.
func changed(t api.T, put func(v int) api.T) api.T {
	if t.F < 0 {
		return put(-1 - t.F)
	}
	var list []api.T
	for _, part := range t.L {
		list = append(list, changed(part, put))
	}
	return api.T{F: t.F, L: list}
}

func changedAll(c api.Clause, put func(v int) api.T) api.Clause {
	var list api.Clause
	for _, l := range c {
		list = append(list, api.Lit{Neg: l.Neg, A: changed(l.A, put), B: changed(l.B, put)})
	}
	return list
}

func flipped(l api.Lit) api.Lit { return api.Lit{Neg: l.Neg, A: l.B, B: l.A} }

func plainWeight(c api.Clause) int {
	weight := 0
	walkAll(c, func(api.T) { weight++ })
	return weight
}

func plainTop(c api.Clause) int {
	top := -1
	walkAll(c, func(t api.T) {
		if t.F < 0 {
			top = max(top, -1-t.F)
		}
	})
	return top
}

// plainTaut and plainBare go by the chapter's words, over all pairs.
func plainTaut(c api.Clause) bool {
	for _, a := range c {
		if !a.Neg && text(a.A) == text(a.B) {
			return true
		}
		for _, b := range c {
			if !a.Neg && b.Neg && (text(a.A) == text(b.A) && text(a.B) == text(b.B) || text(a.A) == text(b.B) && text(a.B) == text(b.A)) {
				return true
			}
		}
	}
	return false
}

func plainBare(c api.Clause) (string, int) {
	var rest api.Clause
	count := 0
	for _, l := range c {
		if l.Neg && text(l.A) == text(l.B) {
			count++
		} else {
			rest = append(rest, l)
		}
	}
	return texts(rest), count
}

// plainVariant walks both at once: each variable of one must stand for one of
// the other, both ways.
func plainVariant(a, b api.Clause) bool {
	if len(a) != len(b) {
		return false
	}
	var left, right []api.T
	walkAll(a, func(t api.T) { left = append(left, t) })
	walkAll(b, func(t api.T) { right = append(right, t) })
	if len(left) != len(right) {
		return false
	}
	for n := range a {
		if a[n].Neg != b[n].Neg {
			return false
		}
	}
	there, back := map[int]int{}, map[int]int{}
	for n, t := range left {
		u := right[n]
		if t.F >= 0 || u.F >= 0 {
			if t.F != u.F || len(t.L) != len(u.L) {
				return false
			}
			continue
		}
		if to, ok := there[t.F]; ok && to != u.F {
			return false
		}
		if from, ok := back[u.F]; ok && from != t.F {
			return false
		}
		there[t.F], back[u.F] = u.F, t.F
	}
	return true
}

func TestKnownWeightsAndTops(t *testing.T) {
	known := []struct {
		name        string
		c           api.Clause
		weight, top int
	}{
		{"the chapter's example", of(eq(g(x(0)), c)), 3, 0},
		{"nil", nil, 0, -1},
		{"no literals", api.Clause{}, 0, -1},
		{"nothing in a literal", of(api.Lit{}), 2, -1},
		{"two symbols", of(ne(c, d)), 2, -1},
		{"a variable on the left", of(eq(x(4), c)), 2, 4},
		{"a variable on the right", of(ne(c, g(x(4)))), 3, 4},
		{"two literals", of(eq(f(x(1), c), d), ne(g(g(x(3))), x(2))), 8, 3},
		{"the greatest first", of(eq(x(7), x(6)), eq(x(5), x(4))), 4, 7},
		{"the same literal twice", of(eq(g(c), x(0)), eq(g(c), x(0))), 6, 0},
		{"a symbol without parts, many literals", of(eq(c, c), ne(c, c), eq(c, c)), 6, -1},
		{"a variable with parts", of(eq(loaded(2), f(loaded(0)))), 3, 2},
		{"numbers at the ends", of(eq(x(math.MaxInt), symbol(math.MaxInt))), 2, math.MaxInt},
	}
	for _, k := range known {
		was := imageOf(k.c)
		if got := Weight(k.c); got != k.weight {
			t.Errorf("P11.1: %s: Weight = %d, want %d", k.name, got, k.weight)
		}
		if got := Top(k.c); got != k.top {
			t.Errorf("P11.1: %s: Top = %d, want %d", k.name, got, k.top)
		}
		unchanged(t, k.c, was)
	}
}

func TestKnownRenamings(t *testing.T) {
	known := []struct {
		c    api.Clause
		by   int
		want api.Clause
	}{
		{nil, 5, nil},
		{api.Clause{}, 5, nil},
		{of(eq(c, d)), 5, of(eq(c, d))},
		{of(eq(x(0), x(3))), 2, of(eq(x(2), x(5)))},
		{of(ne(g(x(1)), x(0)), eq(x(1), c)), 1, of(ne(g(x(2)), x(1)), eq(x(2), c))},
		{of(ne(g(x(1)), x(0)), eq(x(1), c)), 0, of(ne(g(x(1)), x(0)), eq(x(1), c))},
		{of(ne(g(x(1)), x(0)), eq(x(1), c)), -1, of(ne(g(x(1)), x(0)), eq(x(1), c))},
		{of(eq(x(7), x(8))), math.MinInt, of(eq(x(7), x(8)))},
		{of(eq(loaded(0), f(loaded(1)))), 3, of(eq(x(3), f(x(4))))},
		{of(eq(loaded(0), f(loaded(1)))), 0, of(eq(x(0), f(x(1))))},
		{of(eq(x(1<<30), x(0))), 1 << 30, of(eq(x(1<<31), x(1<<30)))},
		{of(eq(c, x(0)), eq(c, x(0))), 1, of(eq(c, x(1)), eq(c, x(1)))},
	}
	for _, k := range known {
		was := imageOf(k.c)
		got := Rename(k.c, k.by)
		expectTold(t, "P11.1: Rename of "+texts(k.c), got, texts(k.want))
		expectNew(t, "Rename", got, k.c)
		unchanged(t, k.c, was)
	}
}

// TestRenamingTooFar asks for no more than an end.
func TestRenamingTooFar(t *testing.T) {
	for _, v := range []int{0, 1<<30 + 1, math.MaxInt - 1, math.MaxInt} {
		for _, by := range []int{1<<30 + 1, math.MaxInt - 1, math.MaxInt} {
			if got := Rename(of(ne(x(v), g(x(v)))), by); len(got) != 1 || !got[0].Neg {
				t.Errorf("R1: Rename of x%d by %d = %v", v, by, got)
			}
		}
	}
}

func TestKnownApplications(t *testing.T) {
	known := []struct {
		s    subst.S
		c    api.Clause
		want api.Clause
	}{
		{nil, nil, nil},
		{subst.S{{V: 0, T: c}}, api.Clause{}, nil},
		{nil, of(eq(loaded(1), f(loaded(0), c))), of(eq(x(1), f(x(0), c)))},
		{subst.S{{V: 0, T: c}}, of(eq(x(0), x(1)), ne(g(x(0)), x(1))), of(eq(c, x(1)), ne(g(c), x(1)))},
		{subst.S{{V: 0, T: c}, {V: 0, T: d}}, of(eq(x(0), x(0))), of(eq(c, c))},
		{subst.S{{V: 0, T: x(1)}, {V: 1, T: x(0)}}, of(eq(x(0), f(x(1), x(0)))), of(eq(x(1), f(x(0), x(1))))},
		{subst.S{{V: 0, T: f(x(0), loaded(2))}}, of(eq(x(0), c), eq(d, x(0))), of(eq(f(x(0), x(2)), c), eq(d, f(x(0), x(2))))},
		{subst.S{{V: 1, T: x(0)}}, of(eq(g(x(1)), c), eq(g(x(0)), c)), of(eq(g(x(0)), c), eq(g(x(0)), c))},
		{subst.S{{V: 3, T: c}}, of(ne(c, c)), of(ne(c, c))},
		{subst.S{{V: math.MaxInt, T: c}}, of(ne(x(math.MaxInt), x(0))), of(ne(c, x(0)))},
	}
	for _, k := range known {
		was := imageOf(k.c)
		var bound api.Clause
		for _, b := range k.s {
			bound = append(bound, eq(b.T, b.T))
		}
		boundWas := imageOf(bound)
		got := Apply(k.s, k.c)
		expectTold(t, "P11.1: Apply to "+texts(k.c), got, texts(k.want))
		var terms []api.T
		for _, b := range k.s {
			terms = append(terms, b.T)
		}
		expectNew(t, "Apply", got, k.c, terms...)
		unchanged(t, k.c, was)
		unchanged(t, bound, boundWas)
	}
}

func TestKnownSamesAndVariants(t *testing.T) {
	known := []struct {
		name          string
		a, b          api.Clause
		same, variant bool
	}{
		{"nil and empty", nil, api.Clause{}, true, true},
		{"nil and nothing", nil, of(api.Lit{}), false, false},
		{"themselves", of(eq(c, d), ne(c, x(0))), of(eq(c, d), ne(c, x(0))), true, true},
		{"another sign", of(eq(c, d)), of(ne(c, d)), false, false},
		{"another sign, later", of(eq(c, d), eq(c, d)), of(eq(c, d), ne(c, d)), false, false},
		{"another left side", of(eq(c, d)), of(eq(d, d)), false, false},
		{"another right side", of(eq(c, d)), of(eq(c, c)), false, false},
		{"sides turned", of(eq(c, d)), of(eq(d, c)), false, false},
		{"sides turned, of variables", of(eq(x(0), x(1))), of(eq(x(1), x(0))), false, true},
		{"sides turned, of variables seen before", of(eq(c, x(0)), eq(x(0), x(1))), of(eq(c, x(0)), eq(x(1), x(0))), false, false},
		{"literals turned", of(eq(c, d), eq(d, d)), of(eq(d, d), eq(c, d)), false, false},
		{"one literal more", of(eq(c, d), eq(c, d)), of(eq(c, d)), false, false},
		{"as much in other literals", of(eq(c, c), eq(c, c)), of(eq(c, c), eq(c, c), eq(c, c)), false, false},
		{"other numbers", of(eq(g(x(0)), c)), of(eq(g(x(5)), c)), false, true},
		{"other numbers over literals", of(eq(x(0), c), eq(x(1), x(0))), of(eq(x(1), c), eq(x(0), x(1))), false, true},
		{"one variable and two, over literals", of(eq(x(0), c), eq(x(0), c)), of(eq(x(0), c), eq(x(1), c)), false, false},
		{"one variable and two, over sides", of(eq(x(0), x(0))), of(eq(x(0), x(1))), false, false},
		{"each literal a variant alone", of(eq(x(0), x(1)), eq(x(1), c)), of(eq(x(0), x(1)), eq(x(0), c)), false, false},
		{"a variable and a symbol", of(eq(x(0), c)), of(eq(c, c)), false, false},
		{"unlike numbers of parts", of(eq(f(c), c)), of(eq(f(c, c), c)), false, false},
		{"parts of variables", of(eq(loaded(0), f(x(1)))), of(eq(x(0), f(loaded(1)))), true, true},
		{"parts of variables, other numbers", of(eq(loaded(0), f(x(1)))), of(eq(x(3), f(loaded(2)))), false, true},
		{"no parts, nil and empty", of(eq(api.T{F: 1, L: []api.T{}}, c)), of(eq(c, c)), true, true},
		{"numbers at the ends", of(eq(x(math.MaxInt), x(0))), of(eq(x(0), x(math.MaxInt))), false, true},
	}
	for _, k := range known {
		aWas, bWas := imageOf(k.a), imageOf(k.b)
		if Same(k.a, k.b) != k.same || Same(k.b, k.a) != k.same {
			t.Errorf("P11.1: %s: Same(%v, %v) is not %v, both ways", k.name, k.a, k.b, k.same)
		}
		if Variant(k.a, k.b) != k.variant || Variant(k.b, k.a) != k.variant {
			t.Errorf("P11.1: %s: Variant(%v, %v) is not %v, both ways", k.name, k.a, k.b, k.variant)
		}
		unchanged(t, k.a, aWas)
		unchanged(t, k.b, bWas)
	}
}

func TestKnownTauts(t *testing.T) {
	known := []struct {
		name string
		c    api.Clause
		want bool
	}{
		{"nil", nil, false},
		{"no literals", api.Clause{}, false},
		{"nothing in a literal", of(api.Lit{}), true},
		{"both sides the same", of(eq(c, c)), true},
		{"both sides the same, Neg", of(ne(c, c)), false},
		{"both sides the same, great", of(eq(f(x(0), g(c)), f(x(0), g(c)))), true},
		{"both sides the same variable", of(eq(x(2), x(2))), true},
		{"two variables", of(eq(x(2), x(1))), false},
		{"both sides variants", of(eq(g(x(0)), g(x(1)))), false},
		{"both sides the same, behind others", of(ne(c, d), eq(c, g(c)), eq(d, d)), true},
		{"both sides the same but for a variable's parts", of(eq(loaded(0), x(0))), true},
		{"unlike signs", of(eq(c, d), ne(c, d)), true},
		{"unlike signs, Neg first", of(ne(c, d), eq(c, d)), true},
		{"unlike signs, either way round", of(eq(c, d), ne(d, c)), true},
		{"unlike signs, either way round, Neg first", of(ne(d, c), eq(c, d)), true},
		{"like signs", of(eq(c, d), eq(c, d)), false},
		{"like signs, either way round", of(eq(c, d), eq(d, c)), false},
		{"like signs, Neg", of(ne(c, d), ne(d, c)), false},
		{"unlike signs, of variables", of(eq(g(x(0)), x(1)), ne(x(1), g(x(0)))), true},
		{"unlike signs, of other variables", of(eq(g(x(0)), x(1)), ne(g(x(1)), x(0))), false},
		{"unlike signs, one side alike", of(eq(c, d), ne(c, g(d))), false},
		{"unlike signs, sides alike across", of(eq(c, d), ne(g(d), c)), false},
		{"unlike signs, the left one twice", of(eq(c, d), ne(c, c)), false},
		{"unlike signs, the right one twice", of(eq(c, d), ne(d, d)), false},
		{"unlike signs, far from each other", of(eq(c, d), eq(g(c), d), ne(g(d), d), ne(x(0), d), ne(d, c)), true},
		{"unlike signs, behind like ones", of(eq(c, d), eq(c, d), eq(d, c), ne(d, c)), true},
		{"unlike signs, of atoms", of(eq(p(x(0)), truth), ne(p(x(0)), truth)), true},
		{"unlike signs, but for a variable's parts", of(eq(p(loaded(0)), truth), ne(p(x(0)), truth)), true},
		{"none of many", of(eq(c, d), ne(c, g(c)), eq(d, g(c)), ne(x(0), x(0)), eq(x(0), x(1)), ne(x(0), x(2))), false},
	}
	for _, k := range known {
		was := imageOf(k.c)
		if got := Taut(k.c); got != k.want || plainTaut(k.c) != k.want {
			t.Errorf("P11.1: %s: Taut(%v) = %v", k.name, k.c, got)
		}
		unchanged(t, k.c, was)
	}
}

func TestKnownBares(t *testing.T) {
	known := []struct {
		name  string
		c     api.Clause
		want  api.Clause
		count int
	}{
		{"nil", nil, nil, 0},
		{"no literals", api.Clause{}, nil, 0},
		{"nothing in a literal", of(api.Lit{}), of(api.Lit{}), 0},
		{"nothing in a literal, Neg", of(api.Lit{Neg: true}), nil, 1},
		{"both sides the same, Neg", of(ne(c, c)), nil, 1},
		{"both sides the same", of(eq(c, c)), of(eq(c, c)), 0},
		{"two sides, Neg", of(ne(c, d)), of(ne(c, d)), 0},
		{"two variables, Neg", of(ne(x(0), x(1))), of(ne(x(0), x(1))), 0},
		{"some of them", of(ne(g(x(0)), g(x(0))), eq(x(0), c), ne(d, d), ne(c, d), ne(c, c)), of(eq(x(0), c), ne(c, d)), 3},
		{"the same one twice", of(eq(d, c), ne(c, c), eq(d, c), ne(c, c)), of(eq(d, c), eq(d, c)), 2},
		{"either way round", of(ne(c, d), ne(d, c)), of(ne(c, d), ne(d, c)), 0},
		{"variables' numbers and sides stay", of(ne(c, c), ne(c, f(x(7), x(3)))), of(ne(c, f(x(7), x(3)))), 1},
		{"both sides the same but for a variable's parts", of(ne(loaded(0), x(0)), eq(loaded(1), c)), of(eq(x(1), c)), 1},
	}
	for _, k := range known {
		was := imageOf(k.c)
		got, count := Bare(k.c)
		expectTold(t, "P11.1: "+k.name+": Bare of "+texts(k.c), got, texts(k.want))
		if count != k.count {
			t.Errorf("P11.1: %s: Bare(%v) tells %d, want %d", k.name, k.c, count, k.count)
		}
		expectNew(t, "Bare", got, k.c)
		unchanged(t, k.c, was)
	}
}

// lists has every list of so many items of some.
func lists[T any](length int, of []T) [][]T {
	if length == 0 {
		return [][]T{nil}
	}
	var all [][]T
	for _, rest := range lists(length-1, of) {
		for _, item := range of {
			all = append(all, append(slices.Clone(rest), item))
		}
	}
	return all
}

// litsOf has every literal of some sides.
func litsOf(sides ...api.T) []api.Lit {
	var list []api.Lit
	for _, pair := range lists(2, sides) {
		list = append(list, eq(pair[0], pair[1]), ne(pair[0], pair[1]))
	}
	return list
}

// smallClauses has those of no literal, of one, two and three, in all orders.
func smallClauses() []api.Clause {
	var all []api.Clause
	for length, some := range [][]api.Lit{
		nil,
		litsOf(x(0), x(1), loaded(2), c, d, g(x(0)), g(loaded(1)), g(c), f(x(0), x(1)), f(x(1), x(0)), f(x(1), c), p(), truth),
		litsOf(x(0), loaded(1), c, g(x(0)), g(x(2)), f(x(1), x(0))),
		append(litsOf(x(0), x(1)), eq(c, x(0)), ne(c, c), eq(g(loaded(1)), c), eq(g(x(0)), c), eq(c, g(x(1))), ne(g(x(1)), c), eq(f(x(0), x(0), x(1)), f(x(1), x(0), x(1)))),
	} {
		for _, list := range lists(length, some) {
			all = append(all, list)
		}
	}
	return all
}

// expectAlone holds all that is asked of one clause against the chapter's words.
func expectAlone(t *testing.T, c api.Clause) {
	t.Helper()
	was := imageOf(c)
	if got, want := Weight(c), plainWeight(c); got != want {
		t.Fatalf("P11.1: Weight(%v) = %d, want %d", c, got, want)
	}
	if got, want := Top(c), plainTop(c); got != want {
		t.Fatalf("P11.1: Top(%v) = %d, want %d", c, got, want)
	}
	if got, want := Taut(c), plainTaut(c); got != want {
		t.Fatalf("P11.1: Taut(%v) = %v", c, got)
	}
	rest, count := Bare(c)
	wantRest, wantCount := plainBare(c)
	expectTold(t, "P11.1: Bare", rest, wantRest)
	if count != wantCount {
		t.Fatalf("P11.1: Bare(%v) tells %d, want %d", c, count, wantCount)
	}
	expectNew(t, "Bare", rest, c)
	for _, by := range []int{-1, 0, 3} {
		renamed := Rename(c, by)
		expectTold(t, "P11.1: Rename", renamed, texts(changedAll(c, func(v int) api.T { return x(v + max(by, 0)) })))
		expectNew(t, "Rename", renamed, c)
		if !Variant(c, renamed) || Same(c, renamed) != (by <= 0 || Top(c) < 0) {
			t.Fatalf("P11.1: %v and %v, renamed", c, renamed)
		}
	}
	put := g(f(x(1), loaded(5)))
	applied := Apply(subst.S{{V: 1, T: put}, {V: 1, T: symbol(8)}, {V: math.MaxInt, T: symbol(9)}}, c)
	expectTold(t, "P11.1: Apply", applied, texts(changedAll(c, func(v int) api.T {
		if v == 1 {
			return put
		}
		return x(v)
	})))
	expectNew(t, "Apply", applied, c, put)
	unchanged(t, c, was)
}

func TestEverySmallClause(t *testing.T) {
	for _, c := range smallClauses() {
		expectAlone(t, c)
	}
}

func expectTwo(t *testing.T, a, b api.Clause) {
	t.Helper()
	if got, want := Same(a, b), len(a) == len(b) && texts(a) == texts(b); got != want {
		t.Fatalf("P11.1: Same(%v, %v) = %v", a, b, got)
	}
	if got, want := Variant(a, b), plainVariant(a, b); got != want {
		t.Fatalf("P11.1: Variant(%v, %v) = %v", a, b, got)
	}
}

func TestEveryPairOfSmallClauses(t *testing.T) {
	var some []api.Clause
	for _, list := range lists(2, append(litsOf(x(0), loaded(1), x(2)), eq(g(x(0)), x(1)), eq(g(x(1)), x(1)), eq(c, x(0)), ne(c, c))) {
		some = append(some, list, list[:1])
	}
	variants := 0
	for _, a := range append(some, nil) {
		for _, b := range some {
			expectTwo(t, a, b)
			if texts(a) != texts(b) && plainVariant(a, b) {
				variants++
			}
		}
	}
	if variants < len(some) {
		t.Errorf("of %d small clauses only %d pairs are variants", len(some), variants)
	}
}

// TestPairsOfClausesOfAnyKind takes some of all pairs.
func TestPairsOfClausesOfAnyKind(t *testing.T) {
	some := smallClauses()
	for n, a := range some {
		for m := n % 101; m < len(some); m += 101 {
			expectTwo(t, a, some[m])
		}
	}
}

// TestSharedMemoryHandedIn hands in one list in several places: what is told
// shares none even so.
func TestSharedMemoryHandedIn(t *testing.T) {
	list := []api.T{x(0), loaded(1), g(c)}
	shared := of(eq(f(list...), p(list...)), ne(f(list...), f(list[:2]...)), eq(f(list...), p(list...)))
	expectAlone(t, shared)
	expectNorm(t, shared)
	put := f(list...)
	expectNew(t, "Apply", Apply(subst.S{{V: 0, T: put}}, shared), shared, put)
}

// TestWhatIsHandedInHasRoom holds that lists with room behind them are not
// written into there.
func TestWhatIsHandedInHasRoom(t *testing.T) {
	parts := []api.T{x(3), g(x(1)), d, loaded(4), c}
	lits := []api.Lit{ne(c, f(parts[:2]...)), eq(c, d), ne(c, c), eq(x(0), d), ne(f(parts[:1]...), c), eq(c, c)}
	for n := range lits {
		expectAlone(t, lits[:n])
		expectNorm(t, lits[:n])
		expectBytes(t, lits[:n])
	}
}

func chain(depth int, end api.T) api.T {
	for range depth {
		end = g(end)
	}
	return end
}

// TestDeepClauses goes to the bound on parts nested in one another.
func TestDeepClauses(t *testing.T) {
	const depth = 1<<16 - 2
	a := of(ne(chain(depth, x(7)), chain(depth, c)), eq(chain(depth, x(3)), chain(depth, x(7))))
	if Weight(a) != 4*(depth+1) || Top(a) != 7 || Taut(a) {
		t.Error("P11.1: deep terms")
	}
	normal := Norm(a)
	want := of(eq(chain(depth, x(0)), chain(depth, x(1))), ne(chain(depth, c), chain(depth, x(1))))
	if !Same(normal, want) || Same(normal, a) || Same(normal, Rename(normal, 1)) || !Variant(normal, Rename(normal, 1)) {
		t.Error("P11.1: deep terms, made normal")
	}
	if !Taut(of(eq(chain(depth, c), chain(depth, d)), ne(chain(depth, d), chain(depth, c)))) {
		t.Error("P11.1: Taut, of deep terms")
	}
	if rest, count := Bare(of(ne(chain(depth, c), chain(depth, c)), ne(chain(depth, c), chain(depth, d)))); len(rest) != 1 || count != 1 {
		t.Error("P11.1: Bare, of deep terms")
	}
	if b := Put(nil, of(ne(chain(depth, c), d))); len(b) != 2+2*depth+2+2 {
		t.Errorf("P11.2: Put, of deep terms: %d bytes", len(b))
	}
}

// TestManyLiterals has so many, with as many variables, that to go through all
// of them for each one would take long.
func TestManyLiterals(t *testing.T) {
	const many = 1 << 17
	var up, turned, want api.Clause
	for n := range many {
		up = append(up, eq(g(x(many-n)), truth), eq(truth, g(x(n))))
		turned = append(turned, ne(x(n), x(n+1)), eq(x(n+3), x(n)))
	}
	for n := range many + 1 {
		want = append(want, eq(g(x(n)), truth))
	}
	if got := Norm(up); !Same(got, want) {
		t.Errorf("P11.1: Norm of many literals has %d, up to x%d", len(got), Top(got))
	}
	if Taut(up) || Taut(turned) || !Taut(append(up, ne(truth, g(x(many/2))))) || !Taut(append(turned, ne(x(0), x(3)))) {
		t.Error("P11.1: Taut, of many literals")
	}
	if !Variant(up, Rename(up, 9)) || Variant(turned, append(turned[1:], turned[0])) || Weight(up) != 6*many {
		t.Error("P11.1: Variant and Weight, of many literals")
	}
}

// TestWideTerms has many parts beside one another, all of them variables.
func TestWideTerms(t *testing.T) {
	const many = 1 << 18
	var up, down []api.T
	for n := range many {
		up, down = append(up, x(n)), append(down, x(many-1-n))
	}
	a := of(ne(f(down...), p(up...)), eq(f(down...), f(up...)))
	want := of(eq(f(up...), f(down...)), ne(p(down...), f(up...)))
	if got := Norm(a); !Same(got, want) || !Variant(Rename(want, 5), want) || Variant(a, want) {
		t.Errorf("P11.1: Norm of many parts has %d literals", len(got))
	}
	b := Put([]byte{7}, a)
	if _, next, err := Get(b, 1); next != 0 || err != api.Form {
		t.Errorf("P11.2: Get of many parts: %d, %d", next, err)
	}
	if term.Size(f(up...)) != many+1 || Weight(a) != 4*(many+1) {
		t.Error("P11.1: Weight, of many parts")
	}
}
