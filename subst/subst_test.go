package subst

import (
	"math"
	"reflect"
	"slices"
	"strconv"
	"strings"
	"testing"

	"sorites/api"
	"sorites/term"
)

func symbol(f int, list ...api.T) api.T { return api.T{F: f, L: list} }

func x(n int) api.T { return api.T{F: -1 - n} }

// loaded is a variable with parts, which count for nothing.
func loaded(n int) api.T {
	return api.T{F: -1 - n, L: []api.T{symbol(1), x(0), symbol(7, x(1))}}
}

var (
	c = symbol(1)
	d = symbol(2)
)

func f(list ...api.T) api.T { return symbol(4, list...) }

func g(t api.T) api.T { return symbol(5, t) }

// written is a term as a text, with a text for each variable: what is bound is
// put there all at once, by going through the term once.
func written(t api.T, of func(v int) string) string {
	if t.F < 0 {
		return of(-1 - t.F)
	}
	var parts []string
	for _, part := range t.L {
		parts = append(parts, written(part, of))
	}
	return strconv.Itoa(t.F) + "(" + strings.Join(parts, " ") + ")"
}

func itself(v int) string { return "x" + strconv.Itoa(v) }

func text(t api.T) string { return written(t, itself) }

// does is what a substitution makes of a variable, by the chapter's words.
func (s S) does(v int) string {
	for _, b := range s {
		if b.V == v {
			return text(b.T)
		}
	}
	return itself(v)
}

// doesThen is what two of them make of a variable, one behind the other.
func doesThen(s, u S) func(v int) string {
	return func(v int) string {
		for _, b := range s {
			if b.V == v {
				return written(b.T, u.does)
			}
		}
		return u.does(v)
	}
}

// normal is the list of what is done to numbers, by the chapter's words: each
// once, in order, and none to which nothing is done.
func normal(numbers []int, does func(v int) string) []string {
	slices.Sort(numbers)
	var list []string
	for _, v := range slices.Compact(numbers) {
		if does(v) != itself(v) {
			list = append(list, strconv.Itoa(v)+" "+does(v))
		}
	}
	return list
}

func numbers(s S) []int {
	var list []int
	for _, b := range s {
		list = append(list, b.V)
	}
	return list
}

func texts(s S) []string {
	var list []string
	for _, b := range s {
		list = append(list, strconv.Itoa(b.V)+" "+text(b.T))
	}
	return list
}

// bare: no variable has parts.
func bare(t api.T) bool {
	return (t.F >= 0 || len(t.L) == 0) && !slices.ContainsFunc(t.L, func(u api.T) bool { return !bare(u) })
}

func bareAll(s S) bool {
	return !slices.ContainsFunc(s, func(b Bind) bool { return !bare(b.T) })
}

// copied is a term to hold against, whatever becomes of the first one, with
// all that lies in a variable's list.
func copied(t api.T) api.T {
	list := slices.Clone(t.L)
	for n := range list {
		list[n] = copied(list[n])
	}
	return api.T{F: t.F, L: list}
}

func copiedAll(s S) S {
	list := slices.Clone(s)
	for n := range list {
		list[n].T = copied(list[n].T)
	}
	return list
}

func unchanged(t *testing.T, now, was any) {
	t.Helper()
	if !reflect.DeepEqual(now, was) {
		t.Errorf("R4: %v became %v", was, now)
	}
}

// memory counts how often each piece of memory is a part's, with what a list
// has to spare.
type memory map[*api.T]int

func (m memory) add(t api.T) {
	for n := range t.L {
		m.add(t.L[n])
	}
	whole := t.L[:cap(t.L)]
	for n := range whole {
		m[&whole[n]]++
	}
}

// expectNew holds that no two lists of what is told share memory, nor one of
// them with what was handed in.
func expectNew(t *testing.T, call string, told, handedIn []api.T) {
	t.Helper()
	own, other := memory{}, memory{}
	for _, u := range told {
		own.add(u)
	}
	for _, u := range handedIn {
		other.add(u)
	}
	for piece, count := range own {
		if count > 1 || other[piece] > 0 {
			t.Errorf("R4: what %s tells shares memory: %v", call, told)
			return
		}
	}
}

func terms(lists ...S) []api.T {
	var list []api.T
	for _, s := range lists {
		for _, b := range s {
			list = append(list, b.T)
		}
	}
	return list
}

// expectTerm holds a term that is told, by its text and in variables that have
// no parts.
func expectTerm(t *testing.T, call string, got api.T, want string) {
	t.Helper()
	if text(got) != want || !bare(got) {
		t.Errorf("%s = %v, want %s", call, got, want)
	}
}

func TestKnownGets(t *testing.T) {
	s := S{{3, f(x(0), loaded(1))}, {0, c}, {3, d}, {1, x(1)}, {2, loaded(5)}, {0, x(0)}, {math.MaxInt, g(x(7))}}
	known := []struct {
		v    int
		want api.T
		ok   bool
	}{
		{0, c, true},
		{1, x(1), true},
		{2, x(5), true},
		{3, f(x(0), x(1)), true},
		{math.MaxInt, g(x(7)), true},
		{4, api.T{}, false},
		{5, api.T{}, false},
		{-1, api.T{}, false},
		{math.MinInt, api.T{}, false},
		{math.MaxInt - 1, api.T{}, false},
	}
	for _, k := range known {
		if got, ok := s.Get(k.v); ok != k.ok || !reflect.DeepEqual(got, k.want) {
			t.Errorf("P7.1: Get(%d) = %v, %v, want %v, %v", k.v, got, ok, k.want, k.ok)
		}
	}
	for _, empty := range []S{nil, {}} {
		if got, ok := empty.Get(0); ok || !reflect.DeepEqual(got, api.T{}) {
			t.Errorf("P7.1: Get of no bindings = %v, %v", got, ok)
		}
	}
}

func TestKnownApplications(t *testing.T) {
	known := []struct {
		s    S
		t    api.T
		want api.T
	}{
		{S{{0, c}}, f(x(0), x(1)), f(c, x(1))},
		{nil, f(x(0), c), f(x(0), c)},
		{S{}, loaded(2), x(2)},
		{S{{0, c}}, x(0), c},
		{S{{0, c}}, x(1), x(1)},
		{S{{0, c}}, d, d},
		{S{{0, c}}, api.T{}, api.T{}},
		{S{{0, c}}, api.T{F: 4, L: []api.T{}}, f()},
		{S{{0, c}, {0, d}}, f(x(0), x(0)), f(c, c)},
		{S{{0, d}, {1, d}, {0, c}}, f(x(0), x(1)), f(d, d)},
		{S{{0, x(0)}, {0, c}}, g(x(0)), g(x(0))},
		{S{{0, x(0)}}, f(x(0), x(1)), f(x(0), x(1))},
		{S{{0, x(1)}}, f(x(0), x(1)), f(x(1), x(1))},
		{S{{0, g(x(0))}}, f(x(0), g(x(0))), f(g(x(0)), g(g(x(0))))},
		{S{{0, x(1)}, {1, x(0)}}, f(x(0), x(1), g(x(0))), f(x(1), x(0), g(x(1)))},
		{S{{0, x(1)}, {1, x(2)}, {2, c}}, f(x(0), x(1), x(2)), f(x(1), x(2), c)},
		{S{{1, x(0)}, {0, c}}, f(x(1), x(0)), f(x(0), c)},
		{S{{0, c}, {1, d}}, f(loaded(0), loaded(2)), f(c, x(2))},
		{S{{0, loaded(1)}, {1, d}}, f(x(0), x(1)), f(x(1), d)},
		{S{{0, f(loaded(0), c)}}, g(loaded(0)), g(f(x(0), c))},
		{S{{2, c}, {0, d}, {1, g(c)}}, f(x(0), x(1), x(2), x(3)), f(d, g(c), c, x(3))},
		{S{{math.MaxInt, c}, {0, d}}, f(api.T{F: math.MinInt}, api.T{F: math.MinInt + 1}), f(c, api.T{F: math.MinInt + 1})},
	}
	for _, k := range known {
		if got := k.s.Apply(k.t); !reflect.DeepEqual(got, k.want) {
			t.Errorf("P7.1: %v applied to %v = %v, want %v", k.s, k.t, got, k.want)
		}
	}
}

func TestKnownRenamings(t *testing.T) {
	const most = 1 << 30
	known := []struct {
		t    api.T
		by   int
		want api.T
	}{
		{f(x(0), x(2)), 5, f(x(5), x(7))},
		{f(x(0), x(2), g(x(0))), 1, f(x(1), x(3), g(x(1)))},
		{f(x(0), x(2)), 0, f(x(0), x(2))},
		{f(x(0), x(2)), -1, f(x(0), x(2))},
		{f(x(5), x(9)), -5, f(x(5), x(9))},
		{f(x(0), x(2)), math.MinInt, f(x(0), x(2))},
		{x(3), 4, x(7)},
		{loaded(3), 4, x(7)},
		{loaded(3), 0, x(3)},
		{loaded(3), -2, x(3)},
		{f(loaded(0), c), 1, f(x(1), c)},
		{f(loaded(0), c), 0, f(x(0), c)},
		{c, 7, c},
		{api.T{}, 7, api.T{}},
		{f(c, g(d)), most, f(c, g(d))},
		{x(0), most, x(most)},
		{f(x(most), x(1), x(most-1)), most, f(x(2*most), x(most+1), x(2*most-1))},
		{x(most), 1, x(most + 1)},
		{symbol(math.MaxInt, x(0)), 1, symbol(math.MaxInt, x(1))},
	}
	for _, k := range known {
		if got := Rename(k.t, k.by); !reflect.DeepEqual(got, k.want) {
			t.Errorf("P7.1: Rename(%v, %d) = %v, want %v", k.t, k.by, got, k.want)
		}
	}
}

func expectBindings(t *testing.T, call string, got, want S) {
	t.Helper()
	if len(got) != len(want) || len(want) > 0 && !reflect.DeepEqual(got, want) {
		t.Errorf("%s = %v, want %v", call, got, want)
	}
}

func TestKnownNorms(t *testing.T) {
	known := []struct{ s, want S }{
		{nil, nil},
		{S{}, nil},
		{S{{0, c}}, S{{0, c}}},
		{S{{2, c}, {0, d}, {1, g(c)}}, S{{0, d}, {1, g(c)}, {2, c}}},
		{S{{1, c}, {0, d}, {1, d}, {0, c}}, S{{0, d}, {1, c}}},
		{S{{0, x(0)}}, nil},
		{S{{0, loaded(0)}, {1, loaded(0)}}, S{{1, x(0)}}},
		{S{{0, x(0)}, {0, c}}, nil},
		{S{{0, c}, {0, x(0)}}, S{{0, c}}},
		{S{{1, x(0)}, {0, x(1)}}, S{{0, x(1)}, {1, x(0)}}},
		{S{{0, g(x(0))}}, S{{0, g(x(0))}}},
		{S{{1, c}, {0, symbol(0)}}, S{{0, symbol(0)}, {1, c}}},
		{S{{0, f(loaded(1), loaded(2))}}, S{{0, f(x(1), x(2))}}},
		{S{{math.MaxInt, api.T{F: math.MinInt}}, {math.MaxInt - 1, c}, {7, d}}, S{{7, d}, {math.MaxInt - 1, c}}},
	}
	for _, k := range known {
		expectBindings(t, "P7.2: Norm of "+strings.Join(texts(k.s), ", "), k.s.Norm(), k.want)
	}
}

func TestKnownThens(t *testing.T) {
	known := []struct{ s, u, want S }{
		{nil, nil, nil},
		{S{}, S{}, nil},
		{S{{1, c}, {0, x(0)}}, nil, S{{1, c}}},
		{nil, S{{1, c}, {0, x(0)}, {1, d}}, S{{1, c}}},
		{S{{0, x(1)}}, S{{1, c}}, S{{0, c}, {1, c}}},
		{S{{0, f(x(1), x(0))}}, S{{0, c}, {1, d}}, S{{0, f(d, c)}, {1, d}}},
		{S{{0, c}}, S{{0, d}}, S{{0, c}}},
		{S{{0, x(0)}}, S{{0, d}}, S{{0, d}}},
		{S{{0, x(0)}, {0, c}}, S{{0, d}}, S{{0, d}}},
		{S{{0, x(1)}}, S{{1, x(0)}}, S{{1, x(0)}}},
		{S{{0, x(1)}, {1, x(0)}}, S{{0, x(1)}, {1, x(0)}}, nil},
		{S{{0, g(x(0))}}, S{{0, g(x(0))}}, S{{0, g(g(x(0)))}}},
		{S{{0, g(x(0))}}, S{{1, x(0)}}, S{{0, g(x(0))}, {1, x(0)}}},
		{S{{3, c}, {2, x(1)}, {3, d}}, S{{1, g(x(2))}, {0, d}, {1, c}}, S{{0, d}, {1, g(x(2))}, {2, g(x(2))}, {3, c}}},
		{S{{0, loaded(1)}}, S{{2, loaded(0)}}, S{{0, x(1)}, {2, x(0)}}},
		{S{{0, loaded(1)}}, S{{1, loaded(0)}, {3, loaded(3)}}, S{{1, x(0)}}},
	}
	for _, k := range known {
		call := "P7.2: " + strings.Join(texts(k.s), ", ") + " Then " + strings.Join(texts(k.u), ", ")
		expectBindings(t, call, k.s.Then(k.u), k.want)
	}
}

func TestKnownAlike(t *testing.T) {
	known := []struct {
		a, b S
		vars []int
		want bool
	}{
		{nil, nil, nil, true},
		{nil, S{}, []int{0, 1}, true},
		{S{{0, c}}, S{{0, d}}, nil, true},
		{S{{0, c}}, S{{0, d}}, []int{}, true},
		{S{{0, c}}, S{{0, d}}, []int{1}, true},
		{S{{0, c}}, S{{0, d}}, []int{0}, false},
		{S{{0, c}}, S{{0, d}}, []int{1, 0}, false},
		{S{{0, c}}, S{{0, d}}, []int{0, 1}, false},
		{S{{0, c}}, nil, []int{0}, false},
		{nil, S{{0, c}}, []int{1, 1, 0}, false},
		{S{{0, x(0)}}, nil, []int{0}, true},
		{S{{0, loaded(0)}}, nil, []int{0}, true},
		{S{{0, c}, {0, d}}, S{{0, c}}, []int{0}, true},
		{S{{0, c}, {0, d}}, S{{0, d}}, []int{0}, false},
		{S{{0, d}, {1, c}}, S{{1, c}, {0, d}}, []int{1, 0, 1, 2}, true},
		{S{{0, x(1)}}, S{{1, x(0)}}, []int{0}, false},
		{S{{0, x(1)}}, S{{1, x(0)}}, []int{1}, false},
		{S{{0, x(1)}, {1, c}}, S{{0, c}, {1, c}}, []int{0, 1}, false},
		{S{{0, f(x(0), c)}}, S{{0, f(loaded(0), c)}}, []int{0}, true},
		{S{{math.MaxInt, c}}, S{{math.MaxInt, c}}, []int{math.MaxInt}, true},
		{S{{math.MaxInt, c}}, S{{math.MaxInt, d}}, []int{math.MaxInt}, false},
	}
	for _, k := range known {
		if Alike(k.a, k.b, k.vars) != k.want || Alike(k.b, k.a, k.vars) != k.want {
			t.Errorf("P7.2: Alike(%v, %v, %v) is not %v, both ways", k.a, k.b, k.vars, k.want)
		}
	}
}

func TestKnownVariants(t *testing.T) {
	known := []struct {
		a, b api.T
		want bool
	}{
		{x(0), x(0), true},
		{x(0), x(7), true},
		{loaded(0), x(7), true},
		{loaded(3), loaded(4), true},
		{x(0), api.T{F: math.MinInt}, true},
		{x(0), c, false},
		{x(0), api.T{}, false},
		{c, c, true},
		{c, d, false},
		{c, symbol(1, c), false},
		{c, api.T{F: 1, L: []api.T{}}, true},
		{f(x(0), x(3)), f(x(3), x(1)), true},
		{f(x(0), x(1)), f(x(1), x(0)), true},
		{f(x(0), x(3)), f(x(1), x(1)), false},
		{f(x(2), x(2)), f(x(1), x(1)), true},
		{f(x(0), x(1), x(0)), f(x(5), x(0), x(5)), true},
		{f(x(0), x(1), x(0)), f(x(5), x(0), x(0)), false},
		{f(x(0), x(1), x(0)), f(x(1), x(0), x(2)), false},
		{f(x(0), x(1), x(2)), f(x(1), x(2), x(0)), true},
		{f(x(0), x(0)), f(x(0), c), false},
		{f(x(0), c), f(x(0), d), false},
		{f(x(0), c), f(x(1), c, c), false},
		{f(g(x(0)), x(1)), f(g(x(1)), x(0)), true},
		{f(g(x(0)), x(1)), f(x(1), g(x(0))), false},
		{g(x(0)), g(g(x(0))), false},
	}
	for _, k := range known {
		if Variant(k.a, k.b) != k.want || Variant(k.b, k.a) != k.want {
			t.Errorf("P7.2: Variant(%v, %v) is not %v, both ways", k.a, k.b, k.want)
		}
	}
}

// smallTerms has a term of each kind that a binding or a place in a term may
// make a difference for.
func smallTerms() []api.T {
	ends := []api.T{x(0), x(1), x(2), loaded(1), c}
	list := slices.Clone(ends)
	for _, a := range ends {
		list = append(list, g(a))
		for _, b := range ends {
			list = append(list, f(a, b))
		}
	}
	return append(list, f(x(0), g(f(x(1), x(0))), x(2)), f(g(x(2)), g(x(1)), g(x(0))), f(f(c, d), g(f())))
}

// smallLists has every list of so many bindings, of the numbers from 0 on.
func smallLists(length, top int, bound []api.T) []S {
	if length == 0 {
		return []S{nil}
	}
	var lists []S
	for _, rest := range smallLists(length-1, top, bound) {
		for v := range top {
			for _, t := range bound {
				lists = append(lists, append(slices.Clone(rest), Bind{v, t}))
			}
		}
	}
	return lists
}

func listsUpTo(length, top int, bound ...api.T) []S {
	var lists []S
	for n := range length + 1 {
		lists = append(lists, smallLists(n, top, bound)...)
	}
	return lists
}

// expectAlone holds all that is asked of one substitution against the plain
// reading of it.
func expectAlone(t *testing.T, s S, numbersAsked []int) {
	t.Helper()
	was := copiedAll(s)
	for _, v := range numbersAsked {
		got, ok := s.Get(v)
		if ok != slices.Contains(numbers(s), v) {
			t.Errorf("P7.1: %v.Get(%d) tells %v", s, v, ok)
		}
		if ok {
			expectTerm(t, "P7.1: Get", got, s.does(v))
			expectNew(t, "Get", []api.T{got}, terms(s))
		}
	}
	norm := s.Norm()
	if want := normal(numbers(s), s.does); !slices.Equal(texts(norm), want) || !bareAll(norm) {
		t.Errorf("P7.2: %v.Norm() = %v, want %v", s, norm, want)
	}
	if !Alike(s, norm, numbersAsked) || !Alike(norm, s, numbersAsked) {
		t.Errorf("P7.2: %v and %v, made normal, are not told alike", s, norm)
	}
	expectNew(t, "Norm", terms(norm), terms(s))
	unchanged(t, s, was)
	for n := range norm {
		norm[n] = Bind{V: 9, T: symbol(9)}
	}
	unchanged(t, s, was)
}

func expectApplied(t *testing.T, s S, u api.T) {
	t.Helper()
	sWas, uWas := copiedAll(s), copied(u)
	got := s.Apply(u)
	expectTerm(t, "P7.1: Apply", got, written(u, s.does))
	expectNew(t, "Apply", []api.T{got}, append(terms(s), u))
	unchanged(t, s, sWas)
	unchanged(t, u, uWas)
}

func TestEverySmallSubstitution(t *testing.T) {
	small := smallTerms()
	for _, s := range listsUpTo(3, 3, x(0), x(1), c, loaded(2), f(x(1), loaded(0))) {
		expectAlone(t, s, []int{-1, 0, 1, 2, 3})
		for _, u := range small {
			expectApplied(t, s, u)
		}
	}
}

// expectThen holds that one goes behind the other: on variables as a list that
// is normal, and on terms as applied twice.
func expectThen(t *testing.T, s, u S, on []api.T) {
	t.Helper()
	sWas, uWas := copiedAll(s), copiedAll(u)
	both := s.Then(u)
	want := normal(append(numbers(s), numbers(u)...), doesThen(s, u))
	if !slices.Equal(texts(both), want) || !bareAll(both) {
		t.Fatalf("P7.2: %v.Then(%v) = %v, want %v", s, u, both, want)
	}
	expectNew(t, "Then", terms(both), terms(s, u))
	for _, x := range on {
		if once, twice := both.Apply(x), u.Apply(s.Apply(x)); !term.Same(once, twice) {
			t.Fatalf("P7.3: %v.Then(%v) makes %v of %v, and one behind the other %v", s, u, once, x, twice)
		}
	}
	unchanged(t, s, sWas)
	unchanged(t, u, uWas)
}

func TestEveryPairOfSmallSubstitutions(t *testing.T) {
	lists := listsUpTo(2, 3, x(0), x(1), loaded(2), c, g(x(1)))
	on := smallTerms()[:14]
	for _, s := range lists {
		for _, u := range lists {
			expectThen(t, s, u, on)
			want := s.does(0) == u.does(0) && s.does(2) == u.does(2)
			if got := Alike(s, u, []int{2, 0, 2}); got != want {
				t.Fatalf("P7.2: Alike(%v, %v) of 2 and 0 = %v", s, u, got)
			}
		}
	}
}

// TestBracketsDoNotMatter holds the very lists against each other: normal ones
// that do the same are the same.
func TestBracketsDoNotMatter(t *testing.T) {
	lists := listsUpTo(2, 2, x(0), x(1), c, f(x(1), x(0)))
	for _, s := range lists {
		for _, u := range lists {
			left := s.Then(u)
			for _, w := range lists {
				a, b := left.Then(w), s.Then(u.Then(w))
				if !slices.Equal(texts(a), texts(b)) {
					t.Fatalf("P7.3: %v, %v and %v make %v and %v", s, u, w, a, b)
				}
			}
		}
	}
}

// permuted tries all orders of three variables' numbers, which are all
// renamings of terms that have no others.
func permuted(a, b api.T) bool {
	for _, order := range [][]int{{0, 1, 2}, {0, 2, 1}, {1, 0, 2}, {1, 2, 0}, {2, 0, 1}, {2, 1, 0}} {
		if written(a, func(v int) string { return itself(order[v]) }) == text(b) {
			return true
		}
	}
	return false
}

func TestEveryPairOfSmallTerms(t *testing.T) {
	small := smallTerms()
	ends := []api.T{x(0), x(1), x(2), d}
	for _, a := range ends {
		for _, b := range ends {
			for _, e := range ends {
				small = append(small, f(a, b, e), f(a, g(b), a, e))
			}
		}
	}
	for _, a := range small {
		for _, b := range small {
			aWas, bWas := copied(a), copied(b)
			if got := Variant(a, b); got != permuted(a, b) {
				t.Errorf("P7.2: Variant(%v, %v) = %v", a, b, got)
			}
			unchanged(t, a, aWas)
			unchanged(t, b, bWas)
		}
	}
}

func expectRenamed(t *testing.T, u api.T, by int) {
	t.Helper()
	was := copied(u)
	got := Rename(u, by)
	expectTerm(t, "P7.1: Rename", got, written(u, func(v int) string { return itself(v + max(by, 0)) }))
	expectNew(t, "Rename", []api.T{got}, []api.T{u})
	if !Variant(got, u) || !Variant(u, got) {
		t.Errorf("P7.2: %v and %v, renamed, are told no variants", u, got)
	}
	unchanged(t, u, was)
}

func TestRenameSmallTerms(t *testing.T) {
	for _, u := range smallTerms() {
		for _, by := range []int{math.MinInt, -1, 0, 1, 2, 1 << 30} {
			expectRenamed(t, u, by)
		}
	}
}

// TestSharedMemoryHandedIn hands in one list in several places: what is told
// shares none even so.
func TestSharedMemoryHandedIn(t *testing.T) {
	list := []api.T{x(0), loaded(1), g(c)}
	s := S{{0, f(list...)}, {1, f(list...)}, {0, f(list...)}, {2, g(f(list...))}}
	u := f(f(list...), f(list...), x(0), x(0), f(list[:2]...))
	expectApplied(t, s, u)
	expectApplied(t, nil, u)
	expectAlone(t, s, []int{0, 1, 2})
	expectThen(t, s, s, []api.T{u})
	expectThen(t, s[:1], s[1:], []api.T{u})
	expectThen(t, S{{0, u}, {1, u}}, s, []api.T{u})
	expectRenamed(t, u, 3)
}

// TestWhatIsHandedInHasRoom holds that a list with room behind it is not
// written into there.
func TestWhatIsHandedInHasRoom(t *testing.T) {
	whole := S{{2, x(0)}, {1, c}, {2, d}, {7, g(x(3))}, {6, d}}
	was := copiedAll(whole)
	s := whole[:3]
	s.Then(S{{0, c}, {5, d}})
	S{{0, c}}.Then(s)
	s.Norm()
	s.Apply(f(x(1), x(2), x(7)))
	Alike(s, s[:2], []int{1, 2})
	unchanged(t, whole, was)
	vars := []int{3, 1, 2}
	Alike(s, whole, vars)
	if !slices.Equal(vars, []int{3, 1, 2}) {
		t.Errorf("R4: the variables asked for became %v", vars)
	}
}

// TestNumbersThatAreNoVariables: bindings of numbers below 0 are of no
// variable, so nothing is done by them, to symbols least of all.
func TestNumbersThatAreNoVariables(t *testing.T) {
	for _, v := range []int{-1, -2, -5, -6, math.MinInt, math.MinInt + 1} {
		s := S{{v, d}, {0, g(x(1))}, {v, x(0)}, {math.MinInt, c}}
		was := copiedAll(s)
		for _, u := range append(smallTerms(), api.T{}, symbol(math.MaxInt), symbol(math.MaxInt-1)) {
			expectApplied(t, s, u)
		}
		s.Get(v)
		s.Norm()
		s.Then(s)
		Alike(s, S{{v, c}}, []int{v, math.MinInt, math.MaxInt})
		if !Alike(s, S{{0, g(x(1))}}, []int{0, 1}) {
			t.Errorf("P7.2: a binding of %d makes a difference to variables", v)
		}
		both := s.Then(S{{v, c}, {1, c}})
		expectTerm(t, "P7.3: Then", both.Apply(f(x(0), x(1), symbol(0))), text(f(g(c), c, symbol(0))))
		unchanged(t, s, was)
	}
}

// TestRenamingsTooFar are promised to end, and nothing else: here they keep
// variables variables.
func TestRenamingsTooFar(t *testing.T) {
	for _, by := range []int{1<<30 + 1, math.MaxInt - 1, math.MaxInt} {
		for _, v := range []int{0, 1, 1 << 30, 1<<30 + 1, math.MaxInt - 1, math.MaxInt} {
			got := Rename(f(x(v), c), by)
			if term.Size(got) != 3 || got.L[0].F >= 0 || got.L[1].F != 1 {
				t.Errorf("R5: Rename(f(x%d, c), %d) = %v", v, by, got)
			}
		}
	}
}

// TestLongLists holds that bindings that don't count, and those of variables
// that don't stand there, make no difference, however many they are.
func TestLongLists(t *testing.T) {
	on := smallTerms()
	for _, s := range listsUpTo(2, 3, x(1), loaded(2), c, f(x(1), x(0))) {
		for _, length := range []int{few - 1, few, few + 1, 4 * few} {
			var ahead, behind S
			for n := range (length - len(s)) / 2 {
				ahead = append(ahead, Bind{10 + n, f(x(n), c)})
			}
			for n := len(ahead) + len(s); n < length; n++ {
				behind = append(behind, Bind{[]int{0, 11, 1, 10, 2}[n%5], d})
			}
			long := slices.Concat(ahead, s, behind)
			expectAlone(t, long, []int{0, 1, 2, 3, 9, 10, 11, 11 + few})
			for _, u := range on {
				expectApplied(t, long, u)
			}
			expectThen(t, s, long, on)
			expectThen(t, long, s, on)
			expectThen(t, long, long, on)
		}
	}
}

// TestDeepTerms goes to the bound on parts nested in one another.
func TestDeepTerms(t *testing.T) {
	const depth = 1 << 16
	chain := func(end api.T) api.T {
		for range depth / 2 {
			end = f(end, x(1))
		}
		return end
	}
	deep := chain(x(0))
	s := S{{0, deep}, {1, c}}
	got := s.Apply(deep)
	if term.Size(got) != 2*depth+1 || term.Count(got, 1) != depth/2 || !slices.Equal(term.Vars(got), []int{0, 1}) {
		t.Errorf("P7.1: a deep term in a deep term has the size %d", term.Size(got))
	}
	if got := Rename(deep, 3); term.Top(got) != 4 || !Variant(got, deep) || Variant(got, chain(x(1))) {
		t.Error("P7.1: a deep term is renamed wrongly")
	}
	both := s.Then(S{{0, d}, {1, d}})
	if len(both) != 2 || term.Count(both[0].T, 2) != depth/2+1 || !term.Same(both[1].T, c) {
		t.Errorf("P7.2: of a deep term Then makes %d bindings", len(both))
	}
	if !Alike(s, s.Norm(), []int{0, 1}) || Alike(s, both, []int{0}) {
		t.Error("P7.2: deep terms are held wrongly")
	}
}

// TestManyBindings asks for many variables among many bindings, each bound
// twice, so that to go through all of them for each would take long.
func TestManyBindings(t *testing.T) {
	const many = 1 << 17
	var s, u S
	var vars []int
	var list []api.T
	for n := range many {
		v := (n*77773 + 5) % many
		s = append(s, Bind{v, x(v + 1)})
		u = append(u, Bind{v + 1, symbol(v)})
		vars = append(vars, v)
		list = append(list, x(n))
	}
	s = append(s, s...)
	for n := range s[many:] {
		s[many+n].T = c
	}
	got := s.Apply(f(list...))
	norm := s.Norm()
	both := s.Then(u)
	if len(norm) != many || len(both) != many+1 {
		t.Fatalf("P7.2: of many bindings Norm leaves %d, and Then makes %d", len(norm), len(both))
	}
	for n := range many {
		if got.L[n].F != -2-n || norm[n].V != n || norm[n].T.F != -2-n || both[n].V != n || both[n].T.F != n {
			t.Fatalf("P7.1: of many bindings the one of %d is gone wrong: %v, %v, %v", n, got.L[n], norm[n], both[n])
		}
	}
	if !Alike(s, norm, vars) || Alike(s, both, vars) || !Variant(got, f(list...)) || Variant(both.Apply(f(list...)), got) {
		t.Error("P7.2: many bindings are held wrongly")
	}
}

// read makes a term of bytes: each is a head and a number of parts.
func read(b []byte, depth int) (api.T, []byte) {
	if len(b) == 0 {
		return api.T{}, nil
	}
	head := int(b[0])
	t := api.T{F: head%8 - 4}
	b = b[1:]
	if depth > 0 {
		for range head / 8 % 4 {
			var part api.T
			part, b = read(b, depth-1)
			t.L = append(t.L, part)
		}
	}
	return t, b
}

// readAll makes bindings of bytes: each is a number and a term.
func readAll(b []byte) S {
	var s S
	for len(b) > 0 {
		bind := Bind{V: int(b[0]) % 5}
		bind.T, b = read(b[1:], 3)
		s = append(s, bind)
	}
	return s
}

func FuzzSubstitutions(f *testing.F) {
	f.Add([]byte{}, []byte{0, 5}, []byte{22, 3, 2})
	f.Add([]byte{0, 22, 3, 2, 1, 3, 0, 5}, []byte{1, 2, 3, 14, 1}, []byte{30, 3, 14, 1, 2})
	f.Add([]byte{2, 1, 3, 2, 1, 13, 2}, []byte{3, 27, 3, 3, 3, 2, 12, 1}, []byte{30, 22, 3, 2, 24, 5, 6, 7, 13, 1})
	f.Fuzz(func(t *testing.T, first, second, third []byte) {
		if len(first)+len(second)+len(third) > 200 {
			t.Skip()
		}
		s, u := readAll(first), readAll(second)
		a, _ := read(third, 5)
		expectAlone(t, s, []int{0, 1, 2, 3, 4, 5})
		expectApplied(t, s, a)
		expectRenamed(t, a, len(second))
		expectThen(t, s, u, []api.T{a})
		left, right := s.Then(u).Then(s), s.Then(u.Then(s))
		if !slices.Equal(texts(left), texts(right)) {
			t.Errorf("P7.3: %v, %v and %v make %v and %v", s, u, s, left, right)
		}
	})
}
