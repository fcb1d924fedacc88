package rewrite

import (
	"math"
	"slices"
	"strconv"
	"testing"

	"sorites/api"
	"sorites/clause"
	"sorites/parse"
	"sorites/print"
	"sorites/term"
)

func symbol(f int, list ...api.T) api.T { return api.T{F: f, L: list} }

func x(n int) api.T { return api.T{F: -1 - n} }

// loaded is a variable with parts, which count for nothing.
func loaded(n int) api.T {
	return api.T{F: -1 - n, L: []api.T{symbol(1), x(0), b, g(b), symbol(7, x(1), x(9))}}
}

// endless is a variable within itself: who goes through its parts never ends.
func endless(n int) api.T {
	t := api.T{F: -1 - n, L: make([]api.T, 1)}
	t.L[0] = t
	return t
}

var (
	truth = symbol(0)
	a     = symbol(1)
	b     = symbol(2)
	p     = symbol(6)
)

func g(t api.T) api.T { return symbol(3, t) }

func h(t api.T) api.T { return symbol(4, t) }

func f(t, u api.T) api.T { return symbol(5, t, u) }

func r(t api.T) api.T { return symbol(8, t) }

func alike(a, b api.T) api.Lit { return api.Lit{A: a, B: b} }

func unlike(a, b api.T) api.Lit { return api.Lit{Neg: true, A: a, B: b} }

func holds(a api.T) api.Lit { return alike(a, truth) }

func of(list ...api.Lit) api.Clause { return list }

func ids(list ...int) []int { return list }

func TestExample(t *testing.T) {
	sig, list, _ := parse.Parse("f(X) = X. p(f(f(a))).")
	rule, ok := Of(7, list[0])
	if !ok || rule.Id != 7 || print.Term(sig, rule.From) != "f(X0)" || print.Term(sig, rule.To) != "X0" {
		t.Fatalf("P17.1: Of the chapter's example: %v, %v", rule, ok)
	}
	l := []Rule{rule}
	want := list[1][0].A.L[0]
	for _, src := range []string{"f(a)", "a"} {
		got, id, ok := Term(l, want)
		if print.Term(sig, got) != src || id != 7 || !ok {
			t.Errorf("P17.1: Term of the chapter's example: %v, %d, %v", got, id, ok)
		}
		want = got
	}
	if got, id, ok := Once(l, list[1]); print.Clause(sig, got) != "p(f(a))" || id != 7 || !ok {
		t.Errorf("P17.1: Once of the chapter's example: %v, %d, %v", got, id, ok)
	}
	if got, used := All(l, list[1]); print.Clause(sig, got) != "p(a)" || !slices.Equal(used, ids(7, 7)) {
		t.Errorf("P17.2: All of the chapter's example: %v, %d", got, used)
	}
}

func TestKnownRules(t *testing.T) {
	for _, k := range []struct{ src, from, to string }{
		// Greater, the one way or the other.
		{"b = a", "b", "a"},
		{"a = b", "b", "a"},
		{"g(X) = X", "g(X0)", "X0"},
		{"X = g(X)", "g(X0)", "X0"},
		{"g(X) = a", "g(X0)", "a"},
		{"a = g(X)", "g(X0)", "a"},
		{"f(X,Y) = g(Y)", "f(X0,X1)", "g(X1)"},
		{"g(Y) = f(X,Y)", "f(X1,X0)", "g(X0)"},
		{"f(X,X) = X", "f(X0,X0)", "X0"},
		{"f(f(X,Y),Z) = f(X,f(Y,Z))", "f(f(X0,X1),X2)", "f(X0,f(X1,X2))"},
		{"f(a,X) = f(X,b)", "", ""},
		{"f(b,X) = f(a,X)", "f(b,X0)", "f(a,X0)"},
		{"f(g(X),Y) = f(X,g(Y))", "f(g(X0),X1)", "f(X0,g(X1))"},
		{"g(X) = h(X)", "h(X0)", "g(X0)"},
		{"p", "p", "$true"},
		{"r(X)", "r(X0)", "$true"},
		// The same.
		{"a = a", "", ""},
		{"X = X", "", ""},
		{"f(X,Y) = f(X,Y)", "", ""},
		// Neither.
		{"X = Y", "", ""},
		{"X = a", "", ""},
		{"a = X", "", ""},
		{"g(X) = Y", "", ""},
		{"g(X) = h(Y)", "", ""},
		{"f(X,Y) = f(Y,X)", "", ""},
		{"f(X,a) = f(a,X)", "", ""},
		{"f(X,X) = g(h(Y))", "", ""},
		{"f(X,X) = h(h(h(X)))", "", ""},
		{"g(X) = f(X,X)", "f(X0,X0)", "g(X0)"},
		// Neg.
		{"a != b", "", ""},
		{"b != a", "", ""},
		{"~p", "", ""},
		{"g(X) != X", "", ""},
		{"~g(X) = X", "", ""},
		{"~g(X) != X", "g(X0)", "X0"},
		// None, and more than one.
		{"$false", "", ""},
		{"p | q", "", ""},
		{"p | p", "", ""},
		{"b = a | a = b", "", ""},
		{"g(X) = X | ~p", "", ""},
		{"~p | g(X) = X", "", ""},
		{"a != a | g(X) = X", "", ""},
	} {
		c := read(t, k.src)
		for _, id := range []int{0, 1, -1, 40, math.MinInt, math.MaxInt} {
			rule, ok := Of(id, c)
			if k.from == "" {
				if ok || rule.Id != 0 || !clause.Same(pair(rule.From, rule.To), pair(truth, truth)) {
					t.Errorf("P17.1: Of(%d, %s) = %v, %v", id, k.src, rule, ok)
				}
			} else if !ok || rule.Id != id || termText(rule.From) != k.from || termText(rule.To) != k.to {
				t.Errorf("P17.1: Of(%d, %s) = %d, %q, %v", id, k.src, rule.Id, ruleTexts([]Rule{rule}), ok)
			}
			expectOf(t, k.src, id, c)
		}
	}
}

func TestRulesOfStrangeClauses(t *testing.T) {
	strange := []struct {
		c  api.Clause
		ok bool
	}{
		{nil, false},
		{api.Clause{}, false},
		{make(api.Clause, 0, 3), false},
		{of(alike(g(a), a), alike(g(a), a))[:1], true},
		{of(alike(g(a), a), alike(g(a), a))[:0], false},
		{api.Clause{{}}, false},
		{api.Clause{{Neg: true}}, false},
		{of(alike(truth, p)), true},
		{of(alike(g(loaded(0)), x(0))), true},
		{of(alike(loaded(0), g(x(0)))), true},
		{of(alike(loaded(0), x(0))), false},
		{of(alike(loaded(0), a)), false},
		{of(alike(symbol(5), symbol(5, a))), true},
		{of(alike(symbol(5, a, b), symbol(5, g(a)))), true},
		{of(alike(symbol(5, symbol(5, a)), symbol(5, symbol(5), symbol(5)))), true},
		{of(alike(symbol(0, a), truth)), true},
		{of(alike(api.T{F: 5, L: []api.T{}}, symbol(5))), false},
		{of(alike(api.T{F: math.MaxInt}, api.T{F: math.MaxInt - 1})), true},
		{of(alike(g(api.T{F: math.MinInt}), api.T{F: math.MinInt})), true},
		{of(alike(g(api.T{F: math.MinInt}), api.T{F: math.MinInt + 1})), false},
	}
	for n, k := range strange {
		if ok := expectOf(t, "strange", n, k.c); ok != k.ok {
			t.Errorf("P17.1: Of(%v) tells %v", k.c, ok)
		}
	}
	within := of(alike(endless(0), f(endless(1), endless(0))))
	if rule, ok := Of(3, within); !ok || termText(rule.From) != "f(X1,X0)" || termText(rule.To) != "X0" || !bare(rule.From) || !bare(rule.To) {
		t.Errorf("P17.1: Of variables within themselves = %v", ok)
	}
}

// first is of a clause: what is told of the first use, and of all. Where there
// is none it is used by nothing.
type first struct {
	rules           []string
	c, once, always string
	used            []int
}

func expectFirst(t *testing.T, list []first) {
	t.Helper()
	for _, k := range list {
		l, c := rules(t, k.rules...), read(t, k.c)
		id := 0
		if len(k.used) > 0 {
			id = k.used[0]
		}
		if got, by, ok := Once(l, c); text(got) != k.once || by != id || ok != (len(k.used) > 0) {
			t.Errorf("P17.1: Once(%q, %s) = %s, %d, %v, want %s, %d", k.rules, k.c, text(got), by, ok, k.once, id)
		}
		if got, used := All(l, c); text(got) != k.always || !slices.Equal(used, k.used) {
			t.Errorf("P17.2: All(%q, %s) = %s, %d, want %s, %d", k.rules, k.c, text(got), used, k.always, k.used)
		}
		expectByWords(t, "known", l, c)
	}
}

func src(list ...string) []string { return list }

func TestNoUse(t *testing.T) {
	expectFirst(t, []first{
		{nil, "$false", "$false", "$false", nil},
		{nil, "r(g(a)) | X = b", "r(g(a)) | X0 = b", "r(g(a)) | X0 = b", nil},
		{src("g(X) = X", "b = a"), "$false", "$false", "$false", nil},
		{src("g(X) = X"), "r(h(X))", "r(h(X0))", "r(h(X0))", nil},
		{src("g(X) = X"), "X = Y", "X0 = X1", "X0 = X1", nil},
		{src("g(a) = a"), "r(X)", "r(X0)", "r(X0)", nil},
		{src("b = a"), "r(X) | X = a", "r(X0) | X0 = a", "r(X0) | X0 = a", nil},
		// What it matches is no more general than the greater side.
		{src("g(a) = a"), "r(g(X)) | r(g(b))", "r(g(X0)) | r(g(b))", "r(g(X0)) | r(g(b))", nil},
		{src("f(X,X) = X"), "r(f(a,b)) | r(f(X,Y))", "r(f(a,b)) | r(f(X0,X1))", "r(f(a,b)) | r(f(X0,X1))", nil},
		{src("f(g(X),Y) = X"), "r(f(X,g(Y)))", "r(f(X0,g(X1)))", "r(f(X0,g(X1)))", nil},
		// The lesser side isn't asked.
		{src("g(g(X)) = g(X)", "g(b) = a"), "r(g(a)) | a = b", "r(g(a)) | a = b", "r(g(a)) | a = b", nil},
	})
	for _, none := range []api.Clause{nil, {}, make(api.Clause, 0, 3)} {
		for _, l := range [][]Rule{nil, {}, rules(t, "b = a")} {
			expectByWords(t, "no literals", l, none)
		}
	}
	for _, l := range [][]Rule{nil, {}, make([]Rule, 0, 2), rules(t, "b = a", "g(X) = X")[:0]} {
		expectByWords(t, "no rules", l, read(t, "r(b) | g(X) = b"))
	}
}

func TestPlaces(t *testing.T) {
	expectFirst(t, []first{
		// At the top.
		{src("g(X) = X"), "g(a) = b", "a = b", "a = b", ids(10)},
		{src("p"), "p", "$true", "$true", ids(10)},
		{src("r(X)"), "r(g(a)) | ~r(X)", "$true | ~r(X0)", "$true | ~$true", ids(10, 10)},
		// Deeper.
		{src("b = a"), "r(f(g(h(b)),a))", "r(f(g(h(a)),a))", "r(f(g(h(a)),a))", ids(10)},
		{src("b = a"), "r(f(f(b,b),g(b)))", "r(f(f(a,b),g(b)))", "r(f(f(a,a),g(a)))", ids(10, 10, 10)},
		{src("b = a"), "r(f(a,f(a,b)))", "r(f(a,f(a,a)))", "r(f(a,f(a,a)))", ids(10)},
		// The outer place is ahead of the inner one, the first part of the second one.
		{src("g(X) = X"), "r(g(f(g(a),g(b))))", "r(f(g(a),g(b)))", "r(f(a,b))", ids(10, 10, 10)},
		{src("f(X,Y) = X"), "r(f(f(a,b),f(b,a)))", "r(f(a,b))", "r(a)", ids(10, 10)},
		{src("f(X,Y) = Y"), "r(f(f(a,b),f(b,a)))", "r(f(b,a))", "r(a)", ids(10, 10)},
		{src("g(b) = b", "h(a) = a"), "r(f(g(h(a)),g(b)))", "r(f(g(a),g(b)))", "r(f(g(a),b))", ids(11, 10)},
		// At variables nothing is used, but beside them.
		{src("g(X) = X"), "r(f(X,f(Y,g(Z))))", "r(f(X0,f(X1,X2)))", "r(f(X0,f(X1,X2)))", ids(10)},
		{src("f(X,Y) = a"), "r(g(f(X,X)))", "r(g(a))", "r(g(a))", ids(10)},
	})
}

func TestOrderOfRules(t *testing.T) {
	expectFirst(t, []first{
		// Two at one place.
		{src("g(X) = X", "g(a) = a"), "r(g(a))", "r(a)", "r(a)", ids(10)},
		{src("g(a) = a", "g(X) = X"), "r(g(a))", "r(a)", "r(a)", ids(10)},
		{src("g(X) = a", "g(X) = X"), "r(g(b))", "r(a)", "r(a)", ids(10)},
		{src("g(X) = X", "g(X) = a"), "r(g(b))", "r(b)", "r(b)", ids(10)},
		{src("h(X) = X", "g(X) = X", "g(X) = a"), "r(g(g(b)))", "r(g(b))", "r(b)", ids(11, 11)},
		{src("f(a,X) = X", "f(X,b) = X", "f(X,Y) = a"), "r(f(a,b)) | r(f(b,b)) | r(f(b,a))", "r(b) | r(f(b,b)) | r(f(b,a))", "r(b) | r(b) | r(a)", ids(10, 11, 12)},
		// The earlier place counts, not the earlier rule.
		{src("b = a", "g(X) = X"), "r(g(b))", "r(b)", "r(a)", ids(11, 10)},
		{src("b = a", "h(X) = a"), "r(f(h(a),b))", "r(f(a,b))", "r(f(a,a))", ids(11, 10)},
		{src("b = a", "g(X) = X"), "r(g(a)) | r(b)", "r(a) | r(b)", "r(a) | r(a)", ids(11, 10)},
		{src("b = a", "g(X) = X"), "g(a) = b", "a = b", "a = a", ids(11, 10)},
		// One rule twice.
		{src("g(X) = X", "g(X) = X"), "r(g(g(a)))", "r(g(a))", "r(a)", ids(10, 10)},
		{src("b = a", "g(X) = X", "b = a"), "f(b,g(b)) = a", "f(a,g(b)) = a", "f(a,a) = a", ids(10, 11, 10)},
	})
}

func TestVariables(t *testing.T) {
	expectFirst(t, []first{
		// The rule's have nothing to do with the clause's.
		{src("f(X,Y) = g(X)"), "r(f(Y,X)) | X = Y", "r(g(X0)) | X1 = X0", "r(g(X0)) | X1 = X0", ids(10)},
		{src("f(X,g(Y)) = f(Y,X)"), "r(f(g(Y),g(X))) | X = Y", "r(f(X1,g(X0))) | X1 = X0", "r(f(X0,X1)) | X1 = X0", ids(10, 10)},
		{src("f(g(X),Y) = f(X,Y)"), "r(f(g(f(Y,X)),g(Y))) | p", "r(f(f(X0,X1),g(X0))) | p", "r(f(f(X0,X1),g(X0))) | p", ids(10)},
		{src("g(X) = X"), "r(g(f(X,g(X)))) | X = Y", "r(f(X0,g(X0))) | X0 = X1", "r(f(X0,X0)) | X0 = X1", ids(10, 10)},
		// One that stands twice in the greater side.
		{src("f(X,X) = X"), "r(f(a,a))", "r(a)", "r(a)", ids(10)},
		{src("f(X,X) = X"), "r(f(X,X))", "r(X0)", "r(X0)", ids(10)},
		{src("f(X,X) = X"), "r(f(g(Y),g(X))) | r(f(g(Y),g(Y)))", "r(f(g(X0),g(X1))) | r(g(X0))", "r(f(g(X0),g(X1))) | r(g(X0))", ids(10)},
		{src("f(f(X,Y),f(Y,X)) = f(X,Y)"), "f(f(a,X),f(X,a)) = f(f(a,X),f(a,X))", "f(a,X0) = f(f(a,X0),f(a,X0))", "f(a,X0) = f(f(a,X0),f(a,X0))", ids(10)},
		// And twice in the lesser side.
		{src("f(g(X),X) = f(X,X)"), "r(f(g(h(Y)),h(Y)))", "r(f(h(X0),h(X0)))", "r(f(h(X0),h(X0)))", ids(10)},
		{src("h(f(X,Y)) = f(X,Y)"), "r(h(f(h(f(a,b)),X)))", "r(f(h(f(a,b)),X0))", "r(f(f(a,b),X0))", ids(10, 10)},
		// The lesser side lacks some.
		{src("f(X,Y) = a"), "r(f(g(X),g(Y))) | X = Y", "r(a) | X0 = X1", "r(a) | X0 = X1", ids(10)},
		{src("f(X,Y) = g(Y)"), "r(f(f(b,a),f(X,Z)))", "r(g(f(X0,X1)))", "r(g(g(X1)))", ids(10, 10)},
		{src("f(X,f(Y,Z)) = f(Z,X)"), "r(f(Y,f(X,a)))", "r(f(a,X0))", "r(f(a,X0))", ids(10)},
	})
}

func TestUsesThatMakeOthers(t *testing.T) {
	expectFirst(t, []first{
		// Above.
		{src("g(a) = a", "b = a"), "r(g(b))", "r(g(a))", "r(a)", ids(11, 10)},
		{src("b = a", "f(X,X) = X"), "r(g(f(h(b),h(a))))", "r(g(f(h(a),h(a))))", "r(g(h(a)))", ids(10, 11)},
		{src("b = a", "f(g(X),Y) = Y", "h(X) = g(X)"), "r(f(h(b),b))", "r(f(g(b),b))", "r(a)", ids(12, 11, 10)},
		{src("h(X) = X", "g(g(X)) = X"), "r(g(h(g(h(a)))))", "r(g(g(h(a))))", "r(a)", ids(10, 11, 10)},
		{src("b = a", "g(a) = a"), "r(g(g(g(b))))", "r(g(g(g(a))))", "r(a)", ids(10, 11, 11, 11)},
		// Below, and at the same place.
		{src("h(X) = g(X)", "g(X) = X"), "r(h(h(a)))", "r(g(h(a)))", "r(a)", ids(10, 11, 10, 11)},
		{src("f(X,Y) = h(h(X))", "h(h(X)) = g(X)"), "r(f(f(a,b),b))", "r(h(h(f(a,b))))", "r(g(g(a)))", ids(10, 11, 10, 11)},
		{src("f(X,Y) = g(b)", "b = a"), "r(f(a,a))", "r(g(b))", "r(g(a))", ids(10, 11)},
		{src("h(g(X)) = g(h(X))"), "r(h(h(g(g(a)))))", "r(h(g(h(g(a)))))", "r(g(g(h(h(a)))))", ids(10, 10, 10, 10)},
		// Beside: what stood in one part stands in another one then.
		{src("f(g(X),Y) = f(X,g(Y))", "g(h(X)) = X"), "r(f(g(a),h(b)))", "r(f(a,g(h(b))))", "r(f(a,b))", ids(10, 11)},
		{src("f(h(X),Y) = f(Y,X)", "f(a,X) = g(X)"), "r(f(h(b),f(h(X),a)))", "r(f(f(h(X0),a),b))", "r(f(g(X0),b))", ids(10, 10, 11)},
		// One in a literal makes none in another one, but is ahead of it.
		{src("b = a", "g(a) = a"), "r(g(b)) | r(g(a))", "r(g(a)) | r(g(a))", "r(a) | r(a)", ids(10, 11, 11)},
	})
}

func TestLiterals(t *testing.T) {
	expectFirst(t, []first{
		// Neg ones are rewritten like others, and stay so.
		{src("b = a"), "a != b", "a != a", "a != a", ids(10)},
		{src("g(X) = X"), "~r(g(a)) | g(a) != g(b)", "~r(a) | g(a) != g(b)", "~r(a) | a != b", ids(10, 10, 10)},
		{src("p"), "~p | q | p", "~$true | q | p", "~$true | q | $true", ids(10, 10)},
		// A ahead of B, whichever is the greater one.
		{src("b = a", "h(X) = X"), "b = h(b)", "a = h(b)", "a = a", ids(10, 11, 10)},
		{src("b = a", "h(X) = X"), "h(b) = b", "b = b", "a = a", ids(11, 10, 10)},
		{src("b = a"), "X = g(b)", "X0 = g(a)", "X0 = g(a)", ids(10)},
		{src("b = a"), "g(b) != X", "g(a) != X0", "g(a) != X0", ids(10)},
		// The first literal ahead of the second, whatever they are.
		{src("b = a", "h(X) = X"), "r(h(a)) | ~r(b)", "r(a) | ~r(b)", "r(a) | ~r(a)", ids(11, 10)},
		{src("b = a", "h(X) = X"), "~r(b) | r(h(a))", "~r(a) | r(h(a))", "~r(a) | r(a)", ids(10, 11)},
		{src("b = a", "h(X) = X"), "p | a = b | h(b) != b", "p | a = a | h(b) != b", "p | a = a | a != a", ids(10, 11, 10, 10)},
		// Doubles stay, each rewritten on its own.
		{src("b = a"), "r(b) | r(b) | r(a)", "r(a) | r(b) | r(a)", "r(a) | r(a) | r(a)", ids(10, 10)},
		// Not made normal: neither turned, nor put in order, nor numbered anew.
		{src("g(X) = a"), "X = Y | q | g(X) = f(X,Y)", "X0 = X1 | q | a = f(X0,X1)", "X0 = X1 | q | a = f(X0,X1)", ids(10)},
		{src("f(X,Y) = Y"), "g(f(X,Y)) = f(Z,Y) | r(f(X,Z))", "g(X1) = f(X2,X1) | r(f(X0,X2))", "g(X1) = X1 | r(X2)", ids(10, 10, 10)},
		// The rule's own clause.
		{src("g(X) = X"), "g(X) = X", "X0 = X0", "X0 = X0", ids(10)},
	})
}

func TestTerms(t *testing.T) {
	for _, k := range []struct {
		rules  []string
		t, got string
		id     int
		ok     bool
	}{
		{nil, "g(b)", "g(b)", 0, false},
		{src("b = a"), "X", "X0", 0, false},
		{src("b = a"), "a", "a", 0, false},
		{src("b = a"), "b", "a", 10, true},
		{src("g(X) = X"), "X", "X0", 0, false},
		{src("g(X) = X"), "g(X)", "X0", 10, true},
		{src("b = a", "g(X) = X"), "f(X,g(b))", "f(X0,b)", 11, true},
		{src("b = a", "g(X) = X"), "f(b,g(b))", "f(a,g(b))", 10, true},
		{src("f(X,X) = X", "g(X) = X", "g(X) = a"), "f(g(a),g(b))", "f(a,g(b))", 11, true},
		{src("f(X,Y) = X", "f(X,X) = a"), "g(f(b,b))", "g(b)", 10, true},
	} {
		l, u := rules(t, k.rules...), readTerm(t, k.t)
		if got, id, ok := Term(l, u); termText(got) != k.got || id != k.id || ok != k.ok {
			t.Errorf("P17.1: Term(%q, %s) = %s, %d, %v, want %s, %d, %v", k.rules, k.t, termText(got), id, ok, k.got, k.id, k.ok)
		}
		expectByWords(t, "terms", l, pair(u, u))
	}
}

// TestNumbersOfRules: they are told as they were handed on, also 0, and are not
// looked at.
func TestNumbersOfRules(t *testing.T) {
	for _, id := range []int{0, -1, 1, math.MinInt, math.MaxInt} {
		for _, other := range []int{0, 3, id} {
			big, _ := Of(id, of(alike(g(x(0)), x(0))))
			small, _ := Of(other, of(alike(a, b)))
			l := []Rule{small, big}
			c := of(alike(g(g(b)), a))
			if got, by, ok := Term(l, c[0].A); !ok || by != id || termText(got) != "g(b)" {
				t.Errorf("P17.1: Term by a rule of the number %d: %d, %v", id, by, ok)
			}
			if got, by, ok := Once(l, c); !ok || by != id || text(got) != "g(b) = a" {
				t.Errorf("P17.1: Once by a rule of the number %d: %d, %v", id, by, ok)
			}
			if got, used := All(l, c); text(got) != "a = a" || !slices.Equal(used, ids(id, id, other)) {
				t.Errorf("P17.2: All by a rule of the number %d: %d", id, used)
			}
			expectByWords(t, "numbers of rules", l, c)
		}
	}
}

// TestVariablesWithParts: what lies in them is no place, isn't matched, and is
// not told.
func TestVariablesWithParts(t *testing.T) {
	l := rules(t, "b = a", "g(X) = X", "f(X,X) = X")
	hand := []Rule{{5, g(g(loaded(1))), loaded(1)}, {6, f(loaded(0), x(0)), h(loaded(0))}}
	for _, c := range []api.Clause{
		of(alike(loaded(0), loaded(1))),
		of(unlike(loaded(0), g(loaded(0)))),
		of(holds(r(f(loaded(0), x(0))))),
		of(holds(r(f(loaded(0), g(x(0)))))),
		of(holds(r(g(g(loaded(3))))), alike(loaded(0), f(loaded(2), b))),
		of(alike(h(f(g(g(loaded(0))), loaded(0))), b)),
	} {
		expectByWords(t, "with parts", l, c)
		expectByWords(t, "with parts", hand, c)
	}
	within := []Rule{{7, f(endless(2), x(3)), h(endless(3))}}
	c := of(alike(endless(0), g(f(endless(1), endless(1)))), holds(r(f(x(4), endless(0)))))
	if got, used := All(append(l, within...), c); text(got) != "X0 = X1 | r(h(X0))" || !slices.Equal(used, ids(11, 12, 7)) {
		t.Errorf("P17.2: All of variables within themselves = %s, %d", text(got), used)
	}
	for _, u := range []api.T{endless(7), loaded(7)} {
		if got, id, ok := Term(l, u); ok || id != 0 || !bare(got) || got.F != u.F {
			t.Errorf("P17.1: Term of a variable with parts = %v, %d, %v", got, id, ok)
		}
	}
}

// TestStrangeSymbols has symbols with several numbers of parts, and $true with
// parts: only those of as many parts are matched.
func TestStrangeSymbols(t *testing.T) {
	var l []Rule
	for n, c := range []api.Clause{
		of(alike(symbol(5, a), symbol(5))),
		of(alike(symbol(5, x(0), x(0)), symbol(5, x(0)))),
		of(alike(symbol(0, x(0)), truth)),
		of(alike(api.T{F: 9, L: []api.T{}}, a)),
		of(alike(symbol(1, x(0), x(1), x(2)), symbol(1, x(2), x(0)))),
	} {
		rule, ok := Of(n, c)
		if !ok {
			t.Fatalf("P17.1: Of(%v) tells no rule", c)
		}
		l = append(l, rule)
	}
	if got, id, ok := Term(l, symbol(5, symbol(5), a)); ok || id != 0 || term.Size(got) != 3 {
		t.Errorf("P17.1: Term of other numbers of parts: %v, %d", got, id)
	}
	for _, c := range []api.Clause{
		of(alike(symbol(5, symbol(5), a), symbol(5, a, a))),
		of(unlike(symbol(5), symbol(5, symbol(5, a)))),
		of(alike(symbol(0, symbol(0, a)), truth)),
		of(alike(symbol(9), symbol(9, a))),
		of(alike(symbol(1, symbol(1, a, b, symbol(9)), x(1), x(0)), symbol(1, a, a))),
		{{}},
		{{Neg: true}},
		{{}, {}},
	} {
		expectByWords(t, "strange", l, c)
	}
}

// TestRulesThatAreNone hands in what Of never tells: it is not used, and so all
// ends there too.
func TestRulesThatAreNone(t *testing.T) {
	none := []Rule{
		{},
		{1, a, a},
		{2, a, b},
		{3, x(0), a},
		{4, x(0), g(x(0))},
		{5, x(0), x(0)},
		{6, f(x(0), x(1)), f(x(1), x(0))},
		{7, g(x(0)), x(1)},
		{8, f(a, b), f(x(0), x(1))},
		{9, g(a), f(g(a), g(a))},
		{math.MinInt, api.T{F: math.MinInt}, api.T{F: math.MaxInt}},
	}
	for _, c := range []api.Clause{nil, read(t, "r(f(a,b)) | g(a) = X | ~p"), of(alike(api.T{F: math.MinInt}, truth)), {{}}} {
		if got, id, ok := Once(none, c); ok || id != 0 || !clause.Same(got, c) {
			t.Errorf("R1: Once by none = %v, %d, %v", got, id, ok)
		}
		if got, used := All(none, c); len(used) != 0 || !clause.Same(got, c) {
			t.Errorf("R1: All by none = %v, %d", got, used)
		}
		for _, lit := range c {
			if got, id, ok := Term(none, lit.A); ok || id != 0 || !term.Same(got, lit.A) {
				t.Errorf("R1: Term by none = %v, %d, %v", got, id, ok)
			}
		}
	}
	among := slices.Concat(none, rules(t, "b = a"), none)
	if got, used := All(among, read(t, "r(f(a,b))")); text(got) != "r(f(a,a))" || !slices.Equal(used, ids(10)) {
		t.Errorf("R1: All by a rule among none = %s, %d", text(got), used)
	}
}

// TestRoomBehindLists hands in lists with room behind them in which something
// lies: it is neither asked nor changed.
func TestRoomBehindLists(t *testing.T) {
	l := rules(t, "b = a", "g(X) = X", "f(X,X) = X", "h(X) = a", "p")
	c := read(t, "r(f(b,b)) | g(X) = h(b) | ~p | f(g(a),a) != X | r(h(X)) | X = b")
	for n := range len(l) + 1 {
		for m := range len(c) + 1 {
			expectByWords(t, "with room", l[:n], c[:m])
			expectByWords(t, "with room", l[n:], c[m:])
			expectByWords(t, "without room", l[:n:n], c[:m:m])
		}
	}
	parts := []api.T{b, g(b), x(0), f(b, b)}
	for n := range len(parts) + 1 {
		expectByWords(t, "parts with room", l, of(alike(symbol(5, parts[:n]...), b), holds(symbol(8, parts[n:]...))))
	}
}

// TestSharedMemoryHandedIn hands in one list in several places: what is told
// shares none even so, and is rewritten in each of them on its own.
func TestSharedMemoryHandedIn(t *testing.T) {
	parts := []api.T{b, g(b)}
	u := symbol(5, parts...)
	l := rules(t, "b = a", "g(X) = X")
	c := of(alike(u, g(u)), unlike(f(u, u), u), alike(u, g(u)))
	expectByWords(t, "shared", l, c)
	shared := []Rule{{1, symbol(5, g(x(0)), g(x(0))), g(x(0))}, {2, symbol(5, parts...), b}}
	expectByWords(t, "shared with rules", shared, c)
	if got, used := All(l[:1], of(alike(f(u, u), a))); text(got) != "f(f(a,g(a)),f(a,g(a))) = a" || !slices.Equal(used, ids(10, 10, 10, 10)) {
		t.Errorf("P17.2: All of shared memory = %s, %d", text(got), used)
	}
}

// TestNothingIsKept asks the same things again, behind others and behind what
// was done to what they told.
func TestNothingIsKept(t *testing.T) {
	c := read(t, "r(f(g(b),g(b))) | ~r(b) | X = g(X)")
	unit := read(t, "f(X,X) = g(X)")
	rule, _ := Of(1, unit)
	l := append(rules(t, "b = a", "g(X) = X"), rule)
	once, id, _ := Once(l, c)
	all, used := All(l, c)
	wantOnce, wantAll := text(once), text(all)
	for range 3 {
		told, _ := Of(1, unit)
		spoil(pair(told.From, told.To))
		first, by, _ := Once(l, c)
		if text(first) != wantOnce || by != id {
			t.Fatal("R6: asked again Once tells another thing")
		}
		spoil(first)
		last, again := All(l, c)
		if text(last) != wantAll || !slices.Equal(again, used) {
			t.Fatal("R6: asked again All tells another thing")
		}
		spoil(last)
		clear(again[:cap(again)])
		expectByWords(t, "between", l[:1], c)
		expectOf(t, "again", 1, unit)
	}
}

// TestNumbersAtTheirEnds has numbers of symbols and variables at the ends, as
// matching asks nothing of their size.
func TestNumbersAtTheirEnds(t *testing.T) {
	ends := []int{math.MinInt, math.MinInt + 1, -2 - 1<<30, -2, -1, 0, 1, 1<<31 - 1, math.MaxInt - 1, math.MaxInt}
	uses := 0
	for _, k := range ends {
		for _, m := range ends {
			for _, n := range ends {
				name := strconv.Itoa(k) + " " + strconv.Itoa(m) + " " + strconv.Itoa(n)
				var l []Rule
				for id, unit := range []api.Clause{
					of(alike(g(api.T{F: k}), api.T{F: m})),
					of(alike(api.T{F: m}, symbol(5, api.T{F: n}, api.T{F: m}))),
					of(alike(api.T{F: k}, api.T{F: n})),
				} {
					expectOf(t, name, k, unit)
					if rule, ok := Of(id, unit); ok {
						l = append(l, rule)
					}
				}
				s, u := api.T{F: n, L: []api.T{{F: m}}}, symbol(5, g(api.T{F: k}), api.T{F: n})
				uses += expectByWords(t, name, l, of(alike(g(s), u), unlike(api.T{F: k}, f(u, s))))
			}
		}
	}
	expectMany(t, 1000, uses)
}

func chain(depth int, end api.T) api.T {
	for range depth {
		end = g(end)
	}
	return end
}

// TestDeepTerms goes to the bound on parts nested in one another.
func TestDeepTerms(t *testing.T) {
	const depth = 1<<16 - 1
	l := rules(t, "b = a", "h(X) = X", "f(X,X) = X")
	for _, k := range []struct {
		name    string
		t, want api.T
		used    []int
	}{
		{"none", chain(depth, a), chain(depth, a), nil},
		{"at the deepest place", chain(depth, b), chain(depth, a), ids(10)},
		{"at the top", h(chain(depth-1, a)), chain(depth-1, a), ids(11)},
		{"in the middle", chain(depth/2, h(chain(depth/2, b))), chain(depth/2*2, a), ids(11, 10)},
		{"what is twice in it", f(chain(depth-1, x(0)), chain(depth-1, x(0))), chain(depth-1, x(0)), ids(12)},
		{"what becomes so", f(chain(depth-1, a), chain(depth-1, b)), chain(depth-1, a), ids(10, 12)},
	} {
		if got, id, ok := Term(l, k.t); ok != (len(k.used) > 0) || ok && id != k.used[0] || !ok && !term.Same(got, k.t) {
			t.Errorf("P17.1: Term of a deep term, %s: %d, %v", k.name, id, ok)
		}
		if got, used := All(l, of(alike(a, k.t))); !slices.Equal(used, k.used) || !clause.Same(got, of(alike(a, k.want))) {
			t.Errorf("P17.2: All of a deep term, %s: %d", k.name, used)
		}
	}
	rule, ok := Of(3, of(alike(chain(depth-1, x(0)), h(chain(depth-1, x(0))))))
	if !ok {
		t.Fatal("P17.1: Of deep terms tells no rule")
	}
	if got, used := All([]Rule{rule}, of(alike(a, h(chain(depth-1, b))))); !slices.Equal(used, ids(3)) || !clause.Same(got, of(alike(a, chain(depth-1, b)))) {
		t.Errorf("P17.2: All by a deep rule: %d", used)
	}
}

// TestManyUses counts uses of which there are many one behind the other.
func TestManyUses(t *testing.T) {
	const many = 1000
	l := rules(t, "g(X) = X")
	if got, used := All(l, of(holds(r(chain(many, a))))); text(got) != "r(a)" || !slices.Equal(used, slices.Repeat(ids(10), many)) {
		t.Errorf("P17.2: All of %d uses: %s, %d", many, text(got), len(used))
	}
	var c api.Clause
	for range many {
		c = append(c, unlike(g(a), g(b)))
	}
	if got, used := All(l, c); !clause.Same(got, slices.Repeat(of(unlike(a, b)), many)) || len(used) != 2*many {
		t.Errorf("P17.2: All of %d literals: %d", many, len(used))
	}
	wide := symbol(9, slices.Repeat([]api.T{g(b), x(0)}, many)...)
	if got, used := All(l, of(holds(wide))); !term.Same(got[0].A, symbol(9, slices.Repeat([]api.T{b, x(0)}, many)...)) || len(used) != many {
		t.Errorf("P17.2: All of %d parts: %d", many, len(used))
	}
	// Each h goes by each g.
	const apiece = 20
	u := a
	for _, wrap := range []func(api.T) api.T{g, h} {
		for range apiece {
			u = wrap(u)
		}
	}
	got, used := All(rules(t, "h(g(X)) = g(h(X))"), of(holds(r(u))))
	if !slices.Equal(used, slices.Repeat(ids(10), apiece*apiece)) || term.Count(got[0].A, 3) != apiece || got[0].A.L[0].F != 3 {
		t.Errorf("P17.2: All of %d that go by each other: %s, %d", apiece, text(got), len(used))
	}
}

func TestManyRules(t *testing.T) {
	const many = 2000
	var l []Rule
	for n := range many {
		rule, _ := Of(n, of(alike(symbol(10+n), symbol(9+n))))
		l = append(l, rule)
	}
	got, used := All(l, of(alike(symbol(9+many), a)))
	if len(used) != many || used[0] != many-1 || used[many-1] != 0 || got[0].A.F != 9 {
		t.Errorf("P17.2: All by %d rules: %d, %s", many, len(used), text(got))
	}
}
