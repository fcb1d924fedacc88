package rewrite

import (
	"reflect"
	"slices"
	"testing"

	"sorites/api"
	"sorites/clause"
	"sorites/kbo"
	"sorites/match"
	"sorites/parse"
	"sorites/print"
	"sorites/term"
)

// known stands ahead of each source, so that a, b, g, h, f, p, q, r are the
// symbols 1 to 8 in each of them.
const known = "a = b | g(a) = h(f(a,a)) | p | q | r(a)."

var named, _, _ = parse.Parse(known)

// read is the clause of a source without its point.
func read(t *testing.T, src string) api.Clause {
	t.Helper()
	_, list, err := parse.Parse(known + src + ".")
	if err != api.OK || len(list) != 2 {
		t.Fatalf("%q is no clause's source", src)
	}
	return list[1]
}

func readTerm(t *testing.T, src string) api.T {
	t.Helper()
	return read(t, src+" = a")[0].A
}

// firstId is the number of the first of some rules that are read.
const firstId = 10

// rules are those of sources, with numbers that rise.
func rules(t *testing.T, srcs ...string) []Rule {
	t.Helper()
	var l []Rule
	for n, src := range srcs {
		r, ok := Of(firstId+n, read(t, src))
		if !ok {
			t.Fatalf("P17.1: Of(%s) tells no rule", src)
		}
		l = append(l, r)
	}
	return l
}

func text(c api.Clause) string { return print.Clause(named, c) }

func termText(t api.T) string { return print.Term(named, t) }

func ruleTexts(l []Rule) []string {
	var all []string
	for _, r := range l {
		all = append(all, termText(r.From)+" -> "+termText(r.To))
	}
	return all
}

// What is told goes by the chapter's words, step by step.

// step is a use: where, by which rule, and what is told then.
type step struct {
	literal int
	second  bool
	place   []int
	rule    Rule
	then    api.Clause
}

func side(l api.Lit, second bool) api.T {
	if second {
		return l.B
	}
	return l.A
}

// with is a clause with another side of a literal.
func with(c api.Clause, literal int, second bool, t api.T) api.Clause {
	c = slices.Clone(c)
	if second {
		c[literal].B = t
	} else {
		c[literal].A = t
	}
	return c
}

// steps has every use there is, in order.
func steps(l []Rule, c api.Clause) []step {
	var all []step
	for n := range c {
		for _, second := range []bool{false, true} {
			t := side(c[n], second)
			for _, place := range term.Places(t) {
				part, _ := term.At(t, place)
				if part.F < 0 {
					continue
				}
				for _, r := range l {
					if s, ok := match.Match(nil, r.From, part); ok {
						put, _ := term.Put(t, place, s.Apply(r.To))
						all = append(all, step{n, second, place, r, with(c, n, second, put)})
					}
				}
			}
		}
	}
	return all
}

func ofByWords(id int, c api.Clause) (Rule, bool) {
	if len(c) == 1 && !c[0].Neg && kbo.Compare(c[0].A, c[0].B) == 1 {
		return Rule{id, c[0].A, c[0].B}, true
	}
	if len(c) == 1 && !c[0].Neg && kbo.Compare(c[0].A, c[0].B) == -1 {
		return Rule{id, c[0].B, c[0].A}, true
	}
	return Rule{}, false
}

func onceByWords(l []Rule, c api.Clause) (api.Clause, int, bool) {
	if all := steps(l, c); len(all) > 0 {
		return all[0].then, all[0].rule.Id, true
	}
	return c, 0, false
}

func allByWords(l []Rule, c api.Clause) (api.Clause, []int) {
	var used []int
	for {
		then, id, ok := onceByWords(l, c)
		if !ok {
			return c, used
		}
		c, used = then, append(used, id)
	}
}

// image has all of what is handed in to hold against, with what lies in a
// variable's list, and in the room behind a list.
type image struct {
	head, items int
	all         []image
}

func imageOfTerm(t api.T) image {
	i := image{t.F, len(t.L), nil}
	for _, part := range t.L[:cap(t.L)] {
		i.all = append(i.all, imageOfTerm(part))
	}
	return i
}

func imageOf(c api.Clause) image {
	i := image{0, len(c), nil}
	for _, l := range c[:cap(c)] {
		sign := 0
		if l.Neg {
			sign = 1
		}
		i.all = append(i.all, image{sign, 2, []image{imageOfTerm(l.A), imageOfTerm(l.B)}})
	}
	return i
}

func imageOfRules(l []Rule) image {
	i := image{0, len(l), nil}
	for _, r := range l[:cap(l)] {
		i.all = append(i.all, image{r.Id, 2, []image{imageOfTerm(r.From), imageOfTerm(r.To)}})
	}
	return i
}

func imageOfBoth(l []Rule, c api.Clause) []image {
	return []image{imageOfRules(l), imageOf(c)}
}

// memory counts how often each piece of memory is a literal's or a part's, with
// what a list has to spare.
type memory map[any]int

func addPieces[I any](m memory, list []I) {
	whole := list[:cap(list)]
	for n := range whole {
		m[&whole[n]]++
	}
}

func (m memory) addTerm(t api.T) {
	addPieces(m, t.L)
	for _, part := range t.L {
		m.addTerm(part)
	}
}

func (m memory) add(c api.Clause) {
	addPieces(m, c)
	for _, l := range c {
		m.addTerm(l.A)
		m.addTerm(l.B)
	}
}

func (m memory) addRules(l []Rule) {
	addPieces(m, l)
	for _, r := range l {
		m.addTerm(r.From)
		m.addTerm(r.To)
	}
}

func bare(t api.T) bool {
	return (t.F >= 0 || len(t.L) == 0) && !slices.ContainsFunc(t.L, func(u api.T) bool { return !bare(u) })
}

// spoil changes all of a clause that was told, and what lies behind it.
func spoil(c api.Clause) {
	for _, l := range c {
		spoilTerm(l.A)
		spoilTerm(l.B)
	}
	for n := range c[:cap(c)] {
		c[:cap(c)][n] = api.Lit{Neg: true, A: symbol(99, x(99)), B: symbol(98)}
	}
}

func spoilTerm(t api.T) {
	for n := range t.L {
		spoilTerm(t.L[n])
	}
	for n := range t.L[:cap(t.L)] {
		t.L[:cap(t.L)][n] = symbol(99)
	}
}

// expectNew holds that no two lists of what is told share memory, nor one of
// them with what was handed in, and that a change of it changes nothing there.
func expectNew(t *testing.T, call string, told, c api.Clause, l []Rule) {
	t.Helper()
	if slices.ContainsFunc(told, func(l api.Lit) bool { return !bare(l.A) || !bare(l.B) }) {
		t.Fatalf("P17.1: %s tells parts of variables: %v", call, told)
	}
	own, other := memory{}, memory{}
	own.add(told)
	other.add(c)
	other.addRules(l)
	for piece, count := range own {
		if count > 1 || other[piece] > 0 {
			t.Fatalf("R4: what %s of %s tells shares memory", call, text(c))
		}
	}
	were := imageOfBoth(l, c)
	spoil(told)
	if !reflect.DeepEqual(imageOfBoth(l, c), were) {
		t.Fatalf("R4: what %s tells was changed, and %v became %v", call, were, imageOfBoth(l, c))
	}
}

// pair is of two terms, so that what holds of clauses can be asked of them.
func pair(a, b api.T) api.Clause { return api.Clause{{A: a, B: b}} }

func expectOf(t *testing.T, name string, id int, c api.Clause) bool {
	t.Helper()
	were := imageOf(c)
	got, ok := Of(id, c)
	if !reflect.DeepEqual(imageOf(c), were) {
		t.Fatalf("R4: Of changed %v", were)
	}
	want, is := ofByWords(id, c)
	if ok != is || got.Id != want.Id || !clause.Same(pair(got.From, got.To), pair(want.From, want.To)) {
		t.Fatalf("P17.1: %s: Of(%d, %s) = %v, %v, want %v, %v", name, id, text(c), got, ok, want, is)
	}
	expectNew(t, "Of", pair(got.From, got.To), c, nil)
	return ok
}

// expectOnce holds what a call tells of a clause against what it should.
func expectOnce(t *testing.T, name, call string, tells func(l []Rule, c api.Clause) (api.Clause, int, bool), l []Rule, c api.Clause) {
	t.Helper()
	were := imageOfBoth(l, c)
	got, id, ok := tells(l, c)
	if !reflect.DeepEqual(imageOfBoth(l, c), were) {
		t.Fatalf("R4: %s changed %v", call, were)
	}
	want, by, is := onceByWords(l, c)
	if ok != is || id != by || !clause.Same(got, want) {
		t.Fatalf("P17.1: %s: %s(%q, %s) = %s, %d, %v, want %s, %d, %v", name, call, ruleTexts(l), text(c), text(got), id, ok, text(want), by, is)
	}
	expectNew(t, call, got, c, l)
}

// ofTerm is Term as if it were of a clause, whose A alone counts.
func ofTerm(l []Rule, c api.Clause) (api.Clause, int, bool) {
	got, id, ok := Term(l, c[0].A)
	return pair(got, x(0)), id, ok
}

func expectAll(t *testing.T, name string, l []Rule, c api.Clause) int {
	t.Helper()
	were := imageOfBoth(l, c)
	got, used := All(l, c)
	if !reflect.DeepEqual(imageOfBoth(l, c), were) {
		t.Fatalf("R4: All changed %v", were)
	}
	want, by := allByWords(l, c)
	if !slices.Equal(used, by) || !clause.Same(got, want) {
		t.Fatalf("P17.2: %s: All(%q, %s) = %s, %d, want %s, %d", name, ruleTexts(l), text(c), text(got), used, text(want), by)
	}
	expectNew(t, "All", got, c, l)
	return len(used)
}

// expectByWords holds all that is told of a clause, by rules that Of told,
// against the chapter's words, and tells how many uses there were.
func expectByWords(t *testing.T, name string, l []Rule, c api.Clause) int {
	t.Helper()
	for _, lit := range c {
		expectOnce(t, name, "Term", ofTerm, l, pair(lit.A, x(0)))
		expectOnce(t, name, "Term", ofTerm, l, pair(lit.B, x(0)))
	}
	expectOnce(t, name, "Once", Once, l, c)
	return expectAll(t, name, l, c)
}
