package sup

import (
	"reflect"
	"slices"
	"testing"

	"sorites/api"
	"sorites/clause"
	"sorites/kbo"
	"sorites/order"
	"sorites/parse"
	"sorites/print"
	"sorites/unify"
)

// known stands ahead of each source, so that a, b, g, h, f, p, q, r are the
// symbols 1 to 8 in each of them.
const known = "a = b | g(a) = h(f(a,a)) | p | q | r(a)."

var named, _, _ = parse.Parse(known)

// read is the clause of a source without its point.
func read(t *testing.T, src string) api.Clause {
	t.Helper()
	_, list, err := parse.Parse(known + src + ".")
	if err != api.OK || len(list) != 2 {
		t.Fatalf("%q is no clause's source", src)
	}
	return list[1]
}

func text(c api.Clause) string { return print.Clause(named, c) }

func texts(list []api.Clause) []string {
	var all []string
	for _, c := range list {
		all = append(all, text(c))
	}
	return all
}

// What follows goes by the chapter's words, step by step.

// hole is a place of a term: what stands there, and the term with another one
// there instead.
type hole struct {
	part api.T
	fill func(u api.T) api.T
}

func holes(t api.T) []hole {
	all := []hole{{t, func(u api.T) api.T { return u }}}
	if t.F < 0 {
		return all
	}
	for n, part := range t.L {
		for _, h := range holes(part) {
			all = append(all, hole{h.part, func(u api.T) api.T {
				list := slices.Clone(t.L)
				list[n] = h.fill(u)
				return api.T{F: t.F, L: list}
			}})
		}
	}
	return all
}

// choice is a literal of each clause, whether its sides are turned about, and a
// place of the second one's first side.
type choice struct {
	i, j         int
	turned, also bool
	at           hole
}

// sides are a literal's as they stand, or turned about.
func sides(l api.Lit, turned bool) (api.T, api.T) {
	if turned {
		return l.B, l.A
	}
	return l.A, l.B
}

// choices has all there are, in order.
func choices(c, d api.Clause) []choice {
	var all []choice
	for i := range c {
		for _, turned := range []bool{false, true} {
			for j, l := range d {
				for _, also := range []bool{false, true} {
					u, _ := sides(l, also)
					for _, at := range holes(u) {
						all = append(all, choice{i, j, turned, also, at})
					}
				}
			}
		}
	}
	return all
}

func without(c api.Clause, i int) api.Clause {
	var list api.Clause
	for n, l := range c {
		if n != i {
			list = append(list, l)
		}
	}
	return list
}

func beyond(s, t api.T) bool { return kbo.Compare(s, t) == 1 || kbo.Compare(s, t) == 2 }

// ofChoice is what follows by one, if something does.
func ofChoice(c, d api.Clause, k choice, free bool) []api.Clause {
	if c[k.i].Neg || k.at.part.F < 0 {
		return nil
	}
	s, t := sides(c[k.i], k.turned)
	u, v := sides(d[k.j], k.also)
	by, ok := unify.Unify(s, k.at.part)
	if !ok || !free && !(beyond(by.Apply(s), by.Apply(t)) && beyond(by.Apply(u), by.Apply(v))) {
		return nil
	}
	all := append(without(c, k.i), without(d, k.j)...)
	return []api.Clause{clause.Apply(by, append(all, api.Lit{Neg: d[k.j].Neg, A: k.at.fill(t), B: v}))}
}

func top(t api.T) int {
	if t.F < 0 {
		return -1 - t.F
	}
	most := -1
	for _, part := range t.L {
		most = max(most, top(part))
	}
	return most
}

func raised(t api.T, by int) api.T {
	if t.F < 0 {
		return api.T{F: t.F - by}
	}
	u := api.T{F: t.F}
	for _, part := range t.L {
		u.L = append(u.L, raised(part, by))
	}
	return u
}

// apart is d with numbers for its variables that c doesn't have.
func apart(c, d api.Clause) api.Clause {
	most := -1
	for _, l := range c {
		most = max(most, top(l.A), top(l.B))
	}
	var list api.Clause
	for _, l := range d {
		list = append(list, api.Lit{Neg: l.Neg, A: raised(l.A, most+1), B: raised(l.B, most+1)})
	}
	return list
}

func intoByWords(c, d api.Clause) []api.Clause {
	d = apart(c, d)
	first, second := order.Looked(c), order.Looked(d)
	var list []api.Clause
	for _, k := range choices(c, d) {
		if slices.Contains(first, k.i) && slices.Contains(second, k.j) {
			list = append(list, ofChoice(c, d, k, false)...)
		}
	}
	return list
}

func freeByWords(c, d api.Clause) []api.Clause {
	d = apart(c, d)
	var list []api.Clause
	for _, k := range choices(c, d) {
		list = append(list, ofChoice(c, d, k, true)...)
	}
	return list
}

// image has all of what is handed in to hold against, with what lies in a
// variable's list, and in the room behind a list.
type image struct {
	head, items int
	all         []image
}

func imageOfTerm(t api.T) image {
	i := image{t.F, len(t.L), nil}
	for _, part := range t.L[:cap(t.L)] {
		i.all = append(i.all, imageOfTerm(part))
	}
	return i
}

func imageOf(c api.Clause) image {
	i := image{0, len(c), nil}
	for _, l := range c[:cap(c)] {
		sign := 0
		if l.Neg {
			sign = 1
		}
		i.all = append(i.all, image{sign, 2, []image{imageOfTerm(l.A), imageOfTerm(l.B)}})
	}
	return i
}

// memory counts how often each piece of memory is a literal's or a part's, with
// what a list has to spare.
type memory map[any]int

func addPieces[I any](m memory, list []I) {
	whole := list[:cap(list)]
	for n := range whole {
		m[&whole[n]]++
	}
}

func (m memory) addTerm(t api.T) {
	addPieces(m, t.L)
	for _, part := range t.L {
		m.addTerm(part)
	}
}

func (m memory) add(c api.Clause) {
	addPieces(m, c)
	for _, l := range c {
		m.addTerm(l.A)
		m.addTerm(l.B)
	}
}

func bare(t api.T) bool {
	return (t.F >= 0 || len(t.L) == 0) && !slices.ContainsFunc(t.L, func(u api.T) bool { return !bare(u) })
}

// spoil changes all that was told, and what lies behind it.
func spoil(list []api.Clause) {
	wrong := api.Lit{Neg: true, A: symbol(99, x(99)), B: symbol(98)}
	for _, c := range list {
		for _, l := range c {
			spoilTerm(l.A)
			spoilTerm(l.B)
		}
		for n := range c[:cap(c)] {
			c[:cap(c)][n] = wrong
		}
	}
	for n := range list[:cap(list)] {
		list[:cap(list)][n] = of(wrong)
	}
}

func spoilTerm(t api.T) {
	for n := range t.L {
		spoilTerm(t.L[n])
	}
	for n := range t.L[:cap(t.L)] {
		t.L[:cap(t.L)][n] = symbol(99)
	}
}

// expectNew holds that no two lists of what is told share memory, nor one of
// them with a clause that was handed in, and that a change of it changes none.
func expectNew(t *testing.T, call string, list []api.Clause, handed ...api.Clause) {
	t.Helper()
	own, other := memory{}, memory{}
	addPieces(own, list)
	for _, told := range list {
		own.add(told)
		if slices.ContainsFunc(told, func(l api.Lit) bool { return !bare(l.A) || !bare(l.B) }) {
			t.Fatalf("P16.1: %s tells parts of variables: %v", call, told)
		}
	}
	var were []image
	for _, c := range handed {
		other.add(c)
		were = append(were, imageOf(c))
	}
	for piece, count := range own {
		if count > 1 || other[piece] > 0 {
			t.Fatalf("R4: what %s of %v tells shares memory", call, handed)
		}
	}
	spoil(list)
	for n, c := range handed {
		if !reflect.DeepEqual(imageOf(c), were[n]) {
			t.Fatalf("R4: what %s tells was changed, and %v became %v", call, were[n], imageOf(c))
		}
	}
}

// expectCall holds that a call tells what it should, of clauses that stay as
// they are.
func expectCall(t *testing.T, name, call string, tells func(c, d api.Clause) []api.Clause, c, d api.Clause, want []api.Clause) {
	t.Helper()
	first, second := imageOf(c), imageOf(d)
	got := tells(c, d)
	if !reflect.DeepEqual([]image{imageOf(c), imageOf(d)}, []image{first, second}) {
		t.Fatalf("R4: %s changed %v or %v", call, first, second)
	}
	if !slices.EqualFunc(got, want, clause.Same) {
		t.Fatalf("%s: %s(%s; %s) = %q, want %q", name, call, text(c), text(d), texts(got), texts(want))
	}
	expectNew(t, call, got, c, d)
}

// expectByWords holds all that is told of two clauses against the chapter's
// words, and tells how much follows.
func expectByWords(t *testing.T, name string, c, d api.Clause) (into, free int) {
	t.Helper()
	looked, all := intoByWords(c, d), freeByWords(c, d)
	expectCall(t, "P16.1: "+name, "Into", Into, c, d, looked)
	expectCall(t, "P16.1: "+name, "Both", Both, c, d, append(slices.Clone(looked), intoByWords(d, c)...))
	expectCall(t, "P16.2: "+name, "Free", Free, c, d, all)
	return len(looked), len(all)
}
