package parse

import (
	"fmt"
	"math"
	"reflect"
	"slices"
	"strings"
	"testing"

	"sorites/api"
)

func symbol(f int, list ...api.T) api.T { return api.T{F: f, L: list} }

func x(n int) api.T { return api.T{F: -1 - n} }

func eq(a, b api.T) api.Lit { return api.Lit{A: a, B: b} }

func ne(a, b api.T) api.Lit { return api.Lit{Neg: true, A: a, B: b} }

func atom(a api.T) api.Lit { return api.Lit{A: a} }

// The symbols of few: $true, the predicates p and q(.), and a, f(.), g(., .).
const (
	truth = iota
	p
	q
	a
	f
	g
	beyond
)

func few() api.Sig {
	return api.Sig{
		Names: []string{"$true", "p", "q", "a", "f", "g"},
		Arity: []int{0, 0, 1, 0, 1, 2},
		Pred:  []bool{true, true, true, false, false, false},
	}
}

// The conditions of the chapter, as bits, so that those that are broken are
// told apart.
const (
	unlikeParts = 1 << iota // a symbol hasn't its number of parts
	predInTerm              // a symbol of a term is a predicate
	predAsSide              // A, of a literal that is no atom, is a predicate's
	noPred                  // A, of an atom, isn't a predicate's (or a variable)
	truthAsAtom             // A, of an atom, is the symbol 0
	otherTruth              // the symbol 0 stands elsewhere
	tooGreat                // F isn't below how many there are
)

// brokenWithin looks at a term and its parts; head is what a predicate at the
// term itself breaks.
func brokenWithin(sig api.Sig, t api.T, head, zero int) int {
	if t.F < 0 {
		return 0
	}
	broken := 0
	if t.F == 0 {
		broken |= zero
	}
	if t.F >= len(sig.Names) {
		broken |= tooGreat
	} else {
		if sig.Arity[t.F] != len(t.L) {
			broken |= unlikeParts
		}
		if sig.Pred[t.F] && t.F != 0 {
			broken |= head
		}
	}
	for _, part := range t.L {
		broken |= brokenWithin(sig, part, predInTerm, otherTruth)
	}
	return broken
}

func broken(sig api.Sig, c api.Clause) int {
	all := 0
	for _, l := range c {
		if l.B.F != 0 || len(l.B.L) > 0 {
			all |= brokenWithin(sig, l.A, predAsSide, otherTruth) | brokenWithin(sig, l.B, predInTerm, otherTruth)
			continue
		}
		all |= brokenWithin(sig, l.A, 0, truthAsAtom)
		if l.A.F < 0 || l.A.F < len(sig.Names) && !sig.Pred[l.A.F] {
			all |= noPred
		}
	}
	return all
}

// expectRight holds Right against the conditions, and that nothing that was
// handed in is changed.
func expectRight(t *testing.T, sig api.Sig, c api.Clause, want bool) {
	t.Helper()
	was := fmt.Sprintf("%#v %#v", sig, c)
	if got := Right(sig, c); got != want {
		t.Fatalf("P12.2: Right(%s, %s) = %v", sigText(sig), clauseText(c), got)
	}
	if fmt.Sprintf("%#v %#v", sig, c) != was {
		t.Fatalf("R4: Right changed %v or %v", sig, c)
	}
}

func TestRight(t *testing.T) {
	for _, c := range []api.Clause{
		nil,
		{},
		{atom(symbol(p))},
		{{Neg: true, A: symbol(p)}},
		{{A: symbol(p, []api.T{}...), B: api.T{L: []api.T{}}}},
		{atom(symbol(q, x(0)))},
		{atom(symbol(q, symbol(a)))},
		{atom(symbol(q, symbol(f, symbol(g, x(7), symbol(a)))))},
		{eq(x(0), x(1))},
		{eq(x(0), x(0))},
		{ne(symbol(a), symbol(a))},
		{eq(x(math.MaxInt), symbol(a))},
		{eq(symbol(a), api.T{F: math.MinInt})},
		{eq(symbol(g, symbol(f, symbol(a)), x(3)), symbol(f, symbol(g, x(0), x(0))))},
		{atom(symbol(p)), eq(symbol(a), x(0)), {Neg: true, A: symbol(q, x(0))}, atom(symbol(p))},
	} {
		expectRight(t, few(), c, true)
		if broken(few(), c) != 0 {
			t.Errorf("a condition is broken in %s", clauseText(c))
		}
	}
}

// TestEachConditionBrokenAlone: in each literal just one of them is, at each
// place where it can be.
func TestEachConditionBrokenAlone(t *testing.T) {
	sides := func(one api.T) []api.Lit {
		return []api.Lit{
			eq(one, x(0)), eq(x(0), one), ne(one, symbol(a)), ne(symbol(a), one),
			eq(symbol(f, one), x(0)), eq(x(0), symbol(f, one)), eq(symbol(g, x(0), one), symbol(a)), eq(symbol(a), symbol(g, symbol(f, symbol(f, one)), x(0))),
			atom(symbol(q, one)), atom(symbol(q, symbol(f, one))), {Neg: true, A: symbol(q, symbol(g, symbol(a), one))},
		}
	}
	table := []struct {
		condition int
		list      []api.Lit
	}{
		{unlikeParts, slices.Concat(
			sides(symbol(a, x(0))), sides(symbol(f)), sides(symbol(f, x(0), x(1))), sides(symbol(g)), sides(symbol(g, x(0))), sides(symbol(g, x(0), x(1), x(2))),
			[]api.Lit{atom(symbol(p, x(0))), atom(symbol(q)), atom(symbol(q, x(0), x(1))), {Neg: true, A: symbol(p, symbol(a))}, {Neg: true, A: symbol(q)}},
		)},
		{predInTerm, slices.Concat(sides(symbol(p))[4:], sides(symbol(q, x(0)))[4:], []api.Lit{eq(x(0), symbol(p)), ne(symbol(a), symbol(q, symbol(a)))})},
		{predAsSide, []api.Lit{eq(symbol(p), x(0)), ne(symbol(p), symbol(a)), eq(symbol(q, x(0)), x(0)), ne(symbol(q, symbol(a)), symbol(f, x(0)))}},
		{noPred, []api.Lit{atom(symbol(a)), {Neg: true, A: symbol(a)}, atom(symbol(f, x(0))), atom(symbol(g, x(0), x(0))), atom(x(0)), {Neg: true, A: x(5)}, atom(api.T{F: math.MinInt})}},
		{truthAsAtom, []api.Lit{atom(symbol(truth)), {Neg: true, A: symbol(truth)}}},
		{otherTruth, slices.Concat(
			[]api.Lit{eq(symbol(truth), x(0)), ne(symbol(truth), symbol(a)), eq(symbol(truth), symbol(f, x(0)))},
			sides(symbol(truth))[4:],
		)},
		{tooGreat, slices.Concat(
			sides(symbol(beyond)), sides(symbol(beyond, x(0))), sides(symbol(beyond+1)), sides(symbol(math.MaxInt)),
			[]api.Lit{atom(symbol(beyond)), atom(symbol(beyond, x(0))), {Neg: true, A: symbol(math.MaxInt)}},
		)},
	}
	good := []api.Lit{atom(symbol(p)), eq(symbol(a), x(0))}
	for _, k := range table {
		for _, l := range k.list {
			if got := broken(few(), api.Clause{l}); got != k.condition {
				t.Fatalf("in %s the conditions %b are broken, not %b alone", litText(l), got, k.condition)
			}
			// One wrong literal is enough, wherever it stands.
			for _, c := range []api.Clause{{l}, {good[0], l}, {l, good[1]}, {good[0], l, good[1]}, {good[1], good[0], l}} {
				expectRight(t, few(), c, false)
			}
		}
	}
}

// TestTruthWithParts: such a B makes no atom, and is a symbol 0 elsewhere.
func TestTruthWithParts(t *testing.T) {
	sig := few()
	for range 2 {
		for _, l := range []api.Lit{
			eq(symbol(p), symbol(truth, x(0))), ne(x(0), symbol(truth, x(0))), eq(symbol(a), symbol(truth, symbol(a))), eq(symbol(truth, x(0)), x(0)), atom(symbol(truth, x(0))),
			atom(symbol(q, symbol(truth, x(0)))), eq(symbol(f, symbol(truth, x(0))), x(0)),
		} {
			expectRight(t, sig, api.Clause{l}, false)
		}
		sig.Arity[truth] = 1
	}
}

// TestVariablesPartsCountForNothing, whatever they are.
func TestVariablesPartsCountForNothing(t *testing.T) {
	loaded := api.T{F: -3, L: []api.T{symbol(truth), symbol(p, symbol(beyond)), symbol(f)}}
	expectRight(t, few(), api.Clause{eq(loaded, symbol(a)), ne(symbol(a), loaded), eq(symbol(f, loaded), loaded), atom(symbol(q, loaded))}, true)
	expectRight(t, few(), api.Clause{atom(loaded)}, false)
	expectRight(t, api.Sig{}, api.Clause{eq(loaded, loaded)}, true)
}

// TestStrangeSymbols: none that isn't in all lists of sig is there.
func TestStrangeSymbols(t *testing.T) {
	clauses := []api.Clause{{atom(symbol(p))}, {atom(symbol(q, symbol(a)))}, {eq(symbol(a), x(0))}, {ne(x(0), symbol(f, symbol(a)))}, {eq(symbol(g, x(0), x(0)), x(0))}}
	tops := []int{p, a, a, f, g}
	for n, c := range clauses {
		for length := range beyond + 1 {
			want := tops[n] < length
			for which := range 8 {
				sig := few()
				if which&1 == 0 {
					sig.Names = sig.Names[:length]
				}
				if which&2 == 0 {
					sig.Arity = sig.Arity[:length]
				}
				if which&4 == 0 {
					sig.Pred = sig.Pred[:length]
				}
				expectRight(t, sig, c, want || which == 7)
			}
		}
		expectRight(t, api.Sig{}, c, false)
		expectRight(t, Start(), c, false)
	}
	expectRight(t, api.Sig{}, nil, true)
	expectRight(t, api.Sig{}, api.Clause{eq(x(0), x(1))}, true)
	expectRight(t, api.Sig{}, api.Clause{{}}, false)
	expectRight(t, Start(), api.Clause{{}}, false)
	odd := few()
	odd.Arity[a], odd.Arity[f] = -1, math.MaxInt
	expectRight(t, odd, api.Clause{eq(symbol(a), x(0))}, false)
	expectRight(t, odd, api.Clause{eq(symbol(f, x(0)), x(0))}, false)
	// Of the symbol 0 too, as B, the number of parts is sig's.
	odd = few()
	odd.Arity[truth] = 1
	expectRight(t, odd, api.Clause{atom(symbol(p))}, false)
	expectRight(t, odd, api.Clause{eq(symbol(a), x(0))}, true)
	// That the symbol 0 is a predicate is never asked.
	odd = few()
	odd.Pred[truth] = false
	expectRight(t, odd, api.Clause{atom(symbol(p))}, true)
	expectRight(t, odd, api.Clause{eq(symbol(truth), x(0))}, false)
	expectRight(t, odd, api.Clause{atom(symbol(truth))}, false)
}

func TestDeepTerms(t *testing.T) {
	deep := func(last api.T) api.T {
		for range 1 << 16 {
			last = symbol(f, last)
		}
		return last
	}
	for _, last := range []api.T{symbol(a), x(0)} {
		if !Right(few(), api.Clause{eq(deep(last), x(0)), atom(symbol(q, deep(last)))}) {
			t.Error("P12.2: a deep clause is not right")
		}
	}
	for _, last := range []api.T{symbol(truth), symbol(p), symbol(f), symbol(beyond)} {
		if Right(few(), api.Clause{eq(x(0), deep(last))}) || Right(few(), api.Clause{atom(symbol(q, deep(last)))}) {
			t.Errorf("P12.2: a deep clause with %v is right", last)
		}
	}
}

// smallTerms have a depth of at most 2, of all symbols, and one that there
// isn't, with up to two parts.
func smallTerms() []api.T {
	list := []api.T{x(0)}
	for n := range beyond + 1 {
		list = append(list, symbol(n))
	}
	all := slices.Clone(list)
	for n := range beyond + 1 {
		for _, one := range list {
			all = append(all, symbol(n, one))
			for _, other := range list {
				all = append(all, symbol(n, one, other))
			}
		}
	}
	return all
}

func TestEverySmallLiteral(t *testing.T) {
	terms := smallTerms()
	count := map[bool]int{}
	for _, one := range terms {
		for _, other := range terms {
			c := api.Clause{eq(one, other)}
			want := broken(few(), c) == 0
			if Right(few(), c) != want {
				t.Fatalf("P12.2: Right of %s = %v", clauseText(c), !want)
			}
			c[0].Neg = true
			if Right(few(), c) != want {
				t.Fatalf("P12.2: Right of %s = %v", clauseText(c), !want)
			}
			count[want]++
		}
	}
	if count[true] < 50 || count[false] < 50000 {
		t.Errorf("too few literals of a kind: %v", count)
	}
}

// used are the numbers of the symbols of a clause.
func used(c api.Clause) []int {
	var list []int
	var add func(t api.T)
	add = func(t api.T) {
		if t.F >= 0 && !slices.Contains(list, t.F) {
			list = append(list, t.F)
		}
		for _, part := range t.L {
			add(part)
		}
	}
	for _, l := range c {
		add(l.A)
		add(l.B)
	}
	return list
}

func clone(sig api.Sig) api.Sig {
	return api.Sig{Names: slices.Clone(sig.Names), Arity: slices.Clone(sig.Arity), Pred: slices.Clone(sig.Pred)}
}

// TestWhatIsParsedIsRight by the symbols that are told with it, and, where the
// clause has a symbol, by no others.
func TestWhatIsParsedIsRight(t *testing.T) {
	sources := []string{strings.Repeat("p(X) | f(X) = a. ", 30), chain(32, "a") + " = X.", "p(" + strings.Repeat("X, ", 57) + "a)."}
	for _, k := range ordinary() {
		sources = append(sources, k.src)
	}
	for _, src := range sources {
		sig, list, err := Parse(src)
		if err != api.OK || len(list) == 0 {
			t.Fatalf("Parse(%q): %d", src, err)
		}
		for _, c := range list {
			if !Right(sig, c) {
				t.Errorf("P12.3: of %q %s is not right", src, clauseText(c))
			}
			for _, n := range used(c) {
				if n == 0 {
					continue
				}
				other := clone(sig)
				other.Arity[n]++
				expectRight(t, other, c, false)
				other = clone(sig)
				other.Pred[n] = !other.Pred[n]
				expectRight(t, other, c, false)
				expectRight(t, api.Sig{Names: sig.Names[:n], Arity: sig.Arity[:n], Pred: sig.Pred[:n]}, c, false)
			}
		}
		if again, _, _ := Parse(src); !reflect.DeepEqual(again, sig) {
			t.Errorf("R4: Right changed what Parse told of %q", src)
		}
	}
}
