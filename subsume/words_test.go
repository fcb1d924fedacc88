package subsume

import (
	"reflect"
	"slices"
	"strconv"
	"strings"
	"testing"

	"sorites/api"
	"sorites/clause"
	"sorites/parse"
	"sorites/print"
	"sorites/subst"
	"sorites/term"
)

// known stands ahead of each source, so that a, b, g, h, f, p, q, r are the
// symbols 1 to 8 in each of them.
const known = "a = b | g(a) = h(f(a,a)) | p | q | r(a)."

var named, _, _ = parse.Parse(known)

// read is the clause of a source without its point.
func read(t *testing.T, src string) api.Clause {
	t.Helper()
	_, list, err := parse.Parse(known + src + ".")
	if err != api.OK || len(list) != 2 {
		t.Fatalf("%q is no clause's source", src)
	}
	return list[1]
}

func readAll(t *testing.T, srcs ...string) []api.Clause {
	t.Helper()
	var all []api.Clause
	for _, src := range srcs {
		all = append(all, read(t, src))
	}
	return all
}

func text(c api.Clause) string { return print.Clause(named, c) }

func texts(s subst.S) string {
	var list []string
	for _, b := range s {
		list = append(list, "X"+strconv.Itoa(b.V)+" "+print.Term(named, b.T))
	}
	return strings.Join(list, ", ")
}

// What is told goes by the chapter's words, in two ways that have nothing in
// common: by all choices of literals of d, and by all substitutions.

func turned(l api.Lit) api.Lit { return api.Lit{Neg: l.Neg, A: l.B, B: l.A} }

func isOne(l api.Lit, d api.Clause) bool {
	return slices.ContainsFunc(d, func(one api.Lit) bool {
		return clause.Same(of(l), of(one)) || clause.Same(of(l), of(turned(one)))
	})
}

// eachIsOne: is each literal of c one of d, either way round?
func eachIsOne(c, d api.Clause) bool {
	return !slices.ContainsFunc(c, func(l api.Lit) bool { return !isOne(l, d) })
}

// byWords chooses for each literal of c one of d, and goes through all choices,
// as far as what was chosen can be.
func byWords(c, d api.Clause) (subst.S, bool) {
	if len(c) > len(d) {
		return nil, false
	}
	return firstOf(nil, c, d)
}

func firstOf(chosen, c, d api.Clause) (subst.S, bool) {
	s, ok := leading(c[:len(chosen)], chosen)
	if !ok || len(chosen) == len(c) {
		return s, ok
	}
	for _, l := range d {
		for _, one := range []api.Lit{l, turned(l)} {
			if s, ok := firstOf(append(slices.Clip(chosen), one), c, d); ok {
				return s, true
			}
		}
	}
	return nil, false
}

// leading binds each variable of c to what stands chosen where it first stands.
func leading(c, chosen api.Clause) (subst.S, bool) {
	var s subst.S
	for n, l := range c {
		if l.Neg != chosen[n].Neg {
			return nil, false
		}
		s = taken(s, l.A, chosen[n].A)
		s = taken(s, l.B, chosen[n].B)
	}
	if !clause.Same(clause.Apply(s, c), chosen) {
		return nil, false
	}
	return s, true
}

func taken(s subst.S, pattern, u api.T) subst.S {
	if pattern.F < 0 {
		if _, ok := s.Get(-1 - pattern.F); !ok {
			s = append(s, subst.Bind{V: -1 - pattern.F, T: u})
		}
		return s
	}
	for n := range min(len(pattern.L), len(u.L)) {
		s = taken(s, pattern.L[n], u.L[n])
	}
	return s
}

// variablesOf has the numbers of a clause's variables, each once.
func variablesOf(c api.Clause) []int {
	var all []int
	for _, l := range c {
		all = append(all, term.Vars(symbol(0, l.A, l.B))...)
	}
	slices.Sort(all)
	return slices.Compact(all)
}

// partsOf has all terms that stand in a clause, each once.
func partsOf(c api.Clause) []api.T {
	var all []api.T
	for _, l := range c {
		for _, side := range []api.T{l.A, l.B} {
			for _, place := range term.Places(side) {
				part, _ := term.At(side, place)
				all = append(all, part)
			}
		}
	}
	slices.SortFunc(all, term.Compare)
	return slices.CompactFunc(all, term.Same)
}

// isByWords tries all that may stand for c's variables: parts of d, as nothing
// else makes of a literal one of d.
func isByWords(c, d api.Clause) bool {
	return len(c) <= len(d) && anyOf(nil, variablesOf(c), partsOf(d), c, d)
}

func anyOf(s subst.S, vars []int, parts []api.T, c, d api.Clause) bool {
	if len(s) == len(vars) {
		return eachIsOne(clause.Apply(s, c), d)
	}
	return slices.ContainsFunc(parts, func(part api.T) bool {
		return anyOf(append(slices.Clip(s), subst.Bind{V: vars[len(s)], T: part}), vars, parts, c, d)
	})
}

// few: would all substitutions be tried soon?
func few(c, d api.Clause) bool {
	count := 1
	for range variablesOf(c) {
		count *= len(partsOf(d))
	}
	return count < 200
}

// image has all of what is handed in to hold against, with what lies in a
// variable's list, and in the room behind a list.
type image struct {
	head, items int
	all         []image
}

func imageOfTerm(t api.T) image {
	i := image{t.F, len(t.L), nil}
	for _, part := range t.L[:cap(t.L)] {
		i.all = append(i.all, imageOfTerm(part))
	}
	return i
}

func imageOf(c api.Clause) image {
	i := image{0, len(c), nil}
	for _, l := range c[:cap(c)] {
		sign := 0
		if l.Neg {
			sign = 1
		}
		i.all = append(i.all, image{sign, 2, []image{imageOfTerm(l.A), imageOfTerm(l.B)}})
	}
	return i
}

func imageOfAll(list ...api.Clause) image {
	i := image{0, len(list), nil}
	for _, c := range list[:cap(list)] {
		i.all = append(i.all, imageOf(c))
	}
	return i
}

// memory counts how often each piece of memory is a part's, with what a list
// has to spare.
type memory map[*api.T]int

func (m memory) addTerm(t api.T) {
	whole := t.L[:cap(t.L)]
	for n := range whole {
		m[&whole[n]]++
	}
	for _, part := range t.L {
		m.addTerm(part)
	}
}

func (m memory) add(c api.Clause) {
	for _, l := range c {
		m.addTerm(l.A)
		m.addTerm(l.B)
	}
}

func bare(t api.T) bool {
	return (t.F >= 0 || len(t.L) == 0) && !slices.ContainsFunc(t.L, func(u api.T) bool { return !bare(u) })
}

// spoil changes all of what was told.
func spoil(s subst.S) {
	for n := range s {
		spoilTerm(s[n].T)
		s[n] = subst.Bind{V: -1, T: symbol(99)}
	}
}

func spoilTerm(t api.T) {
	for n := range t.L {
		spoilTerm(t.L[n])
	}
	for n := range t.L[:cap(t.L)] {
		t.L[:cap(t.L)][n] = symbol(99)
	}
}

// expectNew holds that no two terms that are told share memory, nor one of them
// with what was handed in, and that a change of it changes nothing there.
func expectNew(t *testing.T, told subst.S, c, d api.Clause) {
	t.Helper()
	own, other := memory{}, memory{}
	for _, b := range told {
		if !bare(b.T) {
			t.Fatalf("P18.1: By(%s, %s) tells parts of variables: %v", text(c), text(d), told)
		}
		own.addTerm(b.T)
	}
	other.add(c)
	other.add(d)
	for piece, count := range own {
		if count > 1 || other[piece] > 0 {
			t.Fatalf("R4: what By(%s, %s) tells shares memory", text(c), text(d))
		}
	}
	were := imageOfAll(c, d)
	spoil(told)
	if !reflect.DeepEqual(imageOfAll(c, d), were) {
		t.Fatalf("R4: what By told was changed, and %v became %v", were, imageOfAll(c, d))
	}
}

// expectBy holds what is told of two clauses against the chapter's words, and
// tells whether the first one subsumes the second one.
func expectBy(t *testing.T, name string, c, d api.Clause) bool {
	t.Helper()
	were := imageOfAll(c, d)
	got, ok := By(c, d)
	is := Is(c, d)
	if !reflect.DeepEqual(imageOfAll(c, d), were) {
		t.Fatalf("R4: %v was changed", were)
	}
	want, does := byWords(c, d)
	if ok != does || texts(got) != texts(want) {
		t.Fatalf("P18.1: %s: By(%s, %s) = %q, %v, want %q, %v", name, text(c), text(d), texts(got), ok, texts(want), does)
	}
	if is != does || few(c, d) && is != isByWords(c, d) {
		t.Fatalf("P18.1: %s: Is(%s, %s) = %v", name, text(c), text(d), is)
	}
	if ok && !eachIsOne(clause.Apply(got, c), d) {
		t.Fatalf("P18.1: %s: %q doesn't make of %s literals of %s", name, texts(got), text(c), text(d))
	}
	expectNew(t, got, c, d)
	return ok
}

func subsumesByWords(c, d api.Clause) bool {
	_, ok := byWords(c, d)
	return ok
}

// expectAmong holds what is told of a clause among others.
func expectAmong(t *testing.T, name string, l []api.Clause, c api.Clause) {
	t.Helper()
	were := imageOfAll(append(l, c)...)
	some, those := Some(l, c), Those(c, l)
	if !reflect.DeepEqual(imageOfAll(append(l, c)...), were) {
		t.Fatalf("R4: %v was changed", were)
	}
	first, all := -1, []int(nil)
	for n, d := range l {
		if first < 0 && subsumesByWords(d, c) {
			first = n
		}
		if subsumesByWords(c, d) {
			all = append(all, n)
		}
		if is := Strictly(c, d); is != (subsumesByWords(c, d) && !subsumesByWords(d, c)) {
			t.Fatalf("P18.1: %s: Strictly(%s, %s) = %v", name, text(c), text(d), is)
		}
	}
	if some != first || !slices.Equal(those, all) {
		t.Fatalf("P18.1: %s: Some(l, %s) = %d, Those %d, want %d, %d", name, text(c), some, those, first, all)
	}
}
