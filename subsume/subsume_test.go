package subsume

import (
	"math"
	"slices"
	"testing"

	"sorites/api"
	"sorites/parse"
	"sorites/print"
	"sorites/subst"
)

func symbol(f int, list ...api.T) api.T { return api.T{F: f, L: list} }

func x(n int) api.T { return api.T{F: -1 - n} }

// loaded is a variable with parts, which count for nothing.
func loaded(n int) api.T {
	return api.T{F: -1 - n, L: []api.T{symbol(1), x(0), b, g(b), symbol(7, x(1), x(9))}}
}

// endless is a variable within itself: who goes through its parts never ends.
func endless(n int) api.T {
	t := api.T{F: -1 - n, L: make([]api.T, 1)}
	t.L[0] = t
	return t
}

var (
	truth = symbol(0)
	a     = symbol(1)
	b     = symbol(2)
	p     = symbol(6)
)

func g(t api.T) api.T { return symbol(3, t) }

func f(t, u api.T) api.T { return symbol(5, t, u) }

func r(list ...api.T) api.T { return symbol(8, list...) }

func alike(a, b api.T) api.Lit { return api.Lit{A: a, B: b} }

func unlike(a, b api.T) api.Lit { return api.Lit{Neg: true, A: a, B: b} }

func holds(a api.T) api.Lit { return alike(a, truth) }

func of(list ...api.Lit) api.Clause { return list }

func TestExample(t *testing.T) {
	sig, l, _ := parse.Parse("p(X). p(a) | q.")
	c, d := l[0], l[1]
	if !Is(c, d) || Is(d, c) || !Strictly(c, d) || Strictly(d, c) {
		t.Error("P18.1: Is and Strictly of the chapter's example")
	}
	if s, ok := By(c, d); !ok || len(s) != 1 || s[0].V != 0 || print.Term(sig, s[0].T) != "a" {
		t.Errorf("P18.1: By of the chapter's example = %v, %v", s, ok)
	}
	if s, ok := By(d, c); ok || len(s) > 0 {
		t.Errorf("P18.1: By of the chapter's example, the other way round = %v, %v", s, ok)
	}
	if n, none := Some(l, d), Some(l[1:], c); n != 0 || none != -1 {
		t.Errorf("P18.1: Some of the chapter's example = %d, %d", n, none)
	}
	if first, second := Those(c, l), Those(d, l); !slices.Equal(first, []int{0, 1}) || !slices.Equal(second, []int{1}) {
		t.Errorf("P18.1: Those of the chapter's example = %d, %d", first, second)
	}
}

// none is told where the first clause doesn't subsume the second one.
const none = "-"

// knownPair has what By tells of two clauses.
type knownPair struct{ c, d, by string }

func expectKnown(t *testing.T, list []knownPair) {
	t.Helper()
	for _, k := range list {
		c, d := read(t, k.c), read(t, k.d)
		s, ok := By(c, d)
		if ok != (k.by != none) || ok && texts(s) != k.by || !ok && len(s) > 0 {
			t.Errorf("P18.1: By(%s, %s) = %q, %v, want %q", k.c, k.d, texts(s), ok, k.by)
		}
		if is := Is(c, d); is != (k.by != none) {
			t.Errorf("P18.1: Is(%s, %s) = %v", k.c, k.d, is)
		}
		expectBy(t, "known", c, d)
		expectBy(t, "known", d, c)
	}
}

func TestLiteralsInAll(t *testing.T) {
	expectKnown(t, []knownPair{
		// None, on either side.
		{"$false", "$false", ""},
		{"$false", "p", ""},
		{"$false", "r(X) | ~p", ""},
		{"p", "$false", none},
		{"X = Y", "$false", none},
		// The same clause.
		{"p", "p", ""},
		{"r(X)", "r(X)", "X0 X0"},
		{"f(X,Y) = X | ~r(Y)", "f(X,Y) = X | ~r(Y)", "X0 X0, X1 X1"},
		{"f(Y,X) = g(Z) | ~r(Y) | X = Z", "f(Y,X) = g(Z) | ~r(Y) | X = Z", "X0 X0, X1 X1, X2 X2"},
		// Fewer, as many, more.
		{"p", "p | q", ""},
		{"p", "q | p", ""},
		{"p | q", "q | p", ""},
		{"p | q", "q | ~r(a) | p", ""},
		{"p | q", "p", none},
		{"p | p", "p", none},
		{"r(X) | r(Y)", "r(a)", none},
		{"r(X) | r(a)", "r(a)", none},
		{"r(X) | r(a)", "r(a) | p", "X0 a"},
		{"p | q | p", "q | p", none},
		{"p | q", "p | r(a)", none},
		// Several become one.
		{"r(X) | r(Y)", "r(a) | p", "X0 a, X1 a"},
		{"r(X) | r(Y) | r(Z)", "p | r(b) | q", "X0 b, X1 b, X2 b"},
		{"r(X) | r(Y)", "r(a) | r(b)", "X0 a, X1 a"},
		{"p | p", "p | q", ""},
		{"p | p | p", "q | p | p", ""},
		{"r(X) | r(g(Y))", "p | r(g(a))", "X0 g(a), X1 a"},
		{"X = a | a = Y", "b = a | p", "X0 b, X1 b"},
	})
}

func TestSidesAndSigns(t *testing.T) {
	expectKnown(t, []knownPair{
		// Only turned about.
		{"g(X) = X", "a = g(a)", "X0 a"},
		{"a = g(X)", "g(b) = a", "X0 b"},
		{"f(X,Y) = Y", "a = f(b,a)", "X0 b, X1 a"},
		{"g(X) = Y", "b = g(a)", "X0 a, X1 b"},
		{"Y = g(X)", "g(a) = b", "X0 b, X1 a"},
		{"~g(X) = a", "~a = g(b)", "X0 b"},
		{"g(a) = b | a = g(b)", "g(b) = a | b = g(a)", ""},
		// Either way round, with bindings that differ: the first way's.
		{"X = Y", "a = b", "X0 a, X1 b"},
		{"X = Y", "b = a", "X0 b, X1 a"},
		{"X = Y | r(X)", "a = b | r(a)", "X0 a, X1 b"},
		{"X = Y | r(Y)", "a = b | r(a)", "X0 b, X1 a"},
		{"f(X,Y) = f(Z,a)", "f(b,a) = f(a,a)", "X0 b, X1 a, X2 a"},
		{"f(X,a) = f(Y,Z)", "f(b,g(a)) = f(a,a)", "X0 a, X1 b, X2 g(a)"},
		{"X = Y", "r(a)", "X0 r(a), X1 $true"},
		{"X = Y | Y = g(X)", "a = g(b) | b = a", "X0 b, X1 a"},
		{"X = Y | Y = g(X)", "a = g(b) | g(a) = b", none},
		{"X = Y | Y = g(X)", "g(b) = a | b = b | a = b", "X0 b, X1 a"},
		// Neither way.
		{"g(X) = X", "a = g(b)", none},
		{"g(X) = a", "g(a) = b", none},
		{"a = b", "a = a", none},
		{"a = a", "a = b", none},
		{"X = X", "a = b", none},
		{"X = X", "p | g(a) = g(a)", "X0 g(a)"},
		// Signs: the sides fit.
		{"p", "~p", none},
		{"~p", "p", none},
		{"~p", "~p", ""},
		{"r(X)", "~r(a)", none},
		{"~r(X)", "r(a)", none},
		{"~r(X)", "r(b) | ~r(a)", "X0 a"},
		{"r(X)", "~r(b) | r(a)", "X0 a"},
		{"a = b", "a != b", none},
		{"a != b", "b = a", none},
		{"a != b", "b != a", ""},
		{"X != Y", "a = b | g(a) != b", "X0 g(a), X1 b"},
		{"p | ~p", "~p | p", ""},
		{"p | ~p", "p | p", none},
		{"r(X) | ~r(X)", "r(a) | ~r(b) | ~r(a)", "X0 a"},
	})
}

func TestWaysThatEnd(t *testing.T) {
	expectKnown(t, []knownPair{
		// A first literal that fits several, of which only a later one leads on.
		{"r(X) | g(X) = a", "r(a) | r(b) | g(b) = a", "X0 b"},
		{"r(X) | g(X) = a", "r(b) | r(a) | g(b) = a", "X0 b"},
		{"r(X) | g(X) = a", "r(a) | r(b) | g(g(a)) = a | r(g(a))", "X0 g(a)"},
		{"r(X) | g(X) = a", "r(a) | r(b) | g(g(a)) = a", none},
		{"r(f(X,Y)) | r(Y)", "r(f(a,b)) | r(f(b,a)) | r(a)", "X0 b, X1 a"},
		{"r(f(X,Y)) | r(Y)", "r(f(a,b)) | r(a)", none},
		// Turned about leads on, as it stands it doesn't.
		{"X = Y | g(X) = Y", "a = b | g(b) = a", "X0 b, X1 a"},
		{"X = Y | Y = Z | r(Z)", "a = b | b = g(a) | r(g(a))", "X0 a, X1 b, X2 g(a)"},
		{"X = Y | Y = Z | ~r(Z)", "a = b | b = g(a) | ~r(a)", "X0 a, X1 b, X2 a"},
		{"X = Y | Y = Z | r(Z)", "a = b | b = g(a) | r(b)", "X0 b, X1 a, X2 b"},
		// Back over literals which have nothing to do with it.
		{"r(X) | f(Y,a) = Z | g(X) = a", "r(a) | r(b) | f(a,a) = b | f(b,a) = a | g(b) = a", "X0 b, X1 a, X2 b"},
		{"r(X) | p | q | g(X) = a", "q | r(a) | p | r(b) | a = g(b)", "X0 b"},
		{"r(X) | f(Y,a) = a | g(Y) = X", "r(a) | r(b) | f(a,a) = a | f(b,a) = a | g(b) = a", "X0 a, X1 b"},
		{"r(X) | f(Y,a) = a | g(Y) = X", "r(a) | r(b) | f(b,a) = a | f(a,a) = a | g(a) = b", "X0 b, X1 a"},
		// Back more than once: first to the later one, then to the one ahead.
		{"f(X,a) = a | f(Y,b) = X | g(Y) = Z | r(Z)", "f(a,a) = a | f(b,a) = a | f(a,b) = a | f(b,b) = b | g(a) = a | g(b) = b | r(b)", "X0 b, X1 b, X2 b"},
		{"r(X) | r(Y) | r(Z) | f(X,f(Y,Z)) = a", "r(a) | r(b) | f(b,f(a,b)) = a | f(b,f(g(a),a)) = a", "X0 b, X1 a, X2 b"},
		{"r(X) | r(Y) | r(Z) | f(X,f(Y,Z)) = a", "r(a) | r(b) | p | f(b,f(g(a),a)) = a", none},
		// What ends a way can be a literal that two ahead of it bind.
		{"r(X) | r(Y) | X = Y", "r(a) | r(b) | b = g(a) | r(g(a))", "X0 b, X1 g(a)"},
		{"r(X) | r(Y) | X = Y", "r(a) | r(g(a)) | b = g(a) | r(b)", "X0 g(a), X1 b"},
		{"r(X) | r(Y) | r(Z) | X = Y | Y = Z | Z = X", "r(a) | r(b) | r(g(a)) | a = b | b = g(a) | g(b) = a", none},
		{"r(X) | r(Y) | r(Z) | X = Y | Y = Z | Z = X", "r(a) | r(b) | r(g(a)) | a = b | b = g(a) | g(a) = a", "X0 a, X1 b, X2 g(a)"},
	})
}

func TestVariables(t *testing.T) {
	expectKnown(t, []knownPair{
		// One that stands twice, within a literal and over two.
		{"f(X,X) = a", "f(b,b) = a", "X0 b"},
		{"f(X,X) = a", "f(b,a) = a", none},
		{"f(X,X) = X", "b = f(b,b)", "X0 b"},
		{"f(X,X) = X", "a = f(b,b)", none},
		{"X = X", "g(a) = g(a)", "X0 g(a)"},
		{"r(X) | ~r(X)", "r(a) | ~r(a)", "X0 a"},
		{"r(X) | ~r(X)", "r(a) | ~r(b)", none},
		{"r(X) | ~r(g(X))", "r(a) | ~r(g(a))", "X0 a"},
		{"r(X) | ~r(g(X))", "r(a) | ~r(g(b))", none},
		{"r(g(X)) | ~r(X)", "r(g(g(a))) | ~r(g(a))", "X0 g(a)"},
		{"f(X,Y) = a | f(Y,X) = b", "f(a,b) = a | f(b,a) = b", "X0 a, X1 b"},
		{"f(X,Y) = a | f(Y,X) = b", "f(a,b) = a | f(a,b) = b", none},
		// Those of both clauses have one number, and nothing to do with one another.
		{"r(X)", "r(g(X))", "X0 g(X0)"},
		{"f(X,Y) = a", "f(g(Y),X) = a", "X0 g(X0), X1 X1"},
		{"r(X) | f(X,Y) = Y", "f(Y,g(X)) = g(X) | r(Y)", "X0 X0, X1 g(X1)"},
		{"r(X) | f(X,Y) = a", "f(X,Y) = a | r(Y)", none},
		{"r(X) | f(X,Y) = a", "f(X,Y) = a | r(X)", "X0 X0, X1 X1"},
		{"f(X,Y) = X", "f(g(X),g(X)) = g(X)", "X0 g(X0), X1 g(X0)"},
		{"g(X) = Y | r(Y)", "g(Y) = X | r(X)", "X0 X0, X1 X1"},
		{"f(X,X) = a", "f(X,g(X)) = a", none},
		{"f(X,g(X)) = a", "f(g(X),g(g(X))) = a", "X0 g(X0)"},
		{"X = Y", "Y = X", "X0 X0, X1 X1"},
		{"r(X) | r(Y)", "r(Z) | r(Z)", "X0 X0, X1 X0"},
		// Nothing is put for those of the second clause.
		{"r(a)", "r(X)", none},
		{"r(g(X))", "r(X)", none},
		{"p | r(a)", "p | r(X)", none},
		{"f(X,a) = a", "f(a,X) = a", none},
		{"f(X,X) = a", "f(X,Y) = a", none},
		{"f(X,Y) = a", "f(X,X) = a", "X0 X0, X1 X0"},
		{"r(X)", "r(Y)", "X0 X0"},
		{"p", "X = Y", none},
		{"X = a", "Y = Z", none},
		{"X = Y", "Z = a", "X0 X0, X1 a"},
		{"r(X) | ~r(X)", "r(X) | ~r(Y)", none},
		// Without variables.
		{"r(a) | ~r(b)", "p | ~r(b) | r(a)", ""},
		{"r(a) | ~r(b)", "p | r(b) | ~r(a)", none},
		{"g(a) = b", "b = g(a) | g(b) = a", ""},
		{"g(a) = b", "r(g(a)) | r(b)", none},
	})
}

// TestLaterNumbers has variables whose numbers are none of the first, or don't
// rise: bindings stand as they were made.
func TestLaterNumbers(t *testing.T) {
	c := of(holds(f(x(9), x(2))), unlike(x(4), g(x(9))), alike(x(0), x(2)))
	d := of(alike(b, g(g(b))), unlike(g(g(a)), b), holds(f(g(a), g(g(b)))), holds(p))
	if s, ok := By(c, d); !ok || texts(s) != "X9 g(a), X2 g(g(b)), X4 b, X0 b" {
		t.Errorf("P18.1: By = %q, %v", texts(s), ok)
	}
	expectBy(t, "later numbers", c, d)
}

func TestStrangeTerms(t *testing.T) {
	greatest := api.T{F: math.MinInt}
	for n, k := range []struct {
		c, d api.Clause
		by   string
	}{
		{nil, nil, ""},
		{nil, api.Clause{}, ""},
		{api.Clause{}, nil, ""},
		{make(api.Clause, 0, 3), of(holds(p)), ""},
		{of(holds(p), holds(a))[:1], of(holds(p), holds(b))[:1], ""},
		{of(holds(p), holds(a))[:2], of(holds(p), holds(a))[:1], none},
		{of(holds(a)), of(holds(p), holds(a))[:1], none},
		{api.Clause{{}}, api.Clause{{}}, ""},
		{api.Clause{{Neg: true}}, api.Clause{{}}, none},
		{api.Clause{{}}, api.Clause{{}, {Neg: true}}, ""},
		{of(holds(r(loaded(0)))), of(holds(r(a))), "X0 a"},
		{of(holds(r(loaded(0)))), of(holds(r(loaded(1)))), "X0 X1"},
		{of(holds(r(x(0), x(0)))), of(holds(r(loaded(1), x(1)))), "X0 X1"},
		{of(holds(r(loaded(0), x(1)))), of(holds(r(loaded(1), loaded(0)))), "X0 X1, X1 X0"},
		{of(holds(r(a))), of(holds(r(loaded(1)))), none},
		{of(holds(r(endless(0), endless(0)))), of(holds(r(x(7), x(7)))), "X0 X7"},
		{of(holds(r())), of(holds(r(a))), none},
		{of(holds(r(x(0)))), of(holds(r())), none},
		{of(holds(r(x(0)))), of(holds(r(a, b)), holds(r(b))), "X0 b"},
		{of(holds(r(x(0), x(1)))), of(holds(r(a)), holds(r(b, a))), "X0 b, X1 a"},
		{of(alike(symbol(0, x(0)), truth)), of(holds(symbol(0, a))), "X0 a"},
		{of(holds(x(0))), of(alike(truth, truth)), "X0 $true"},
		{of(holds(r(greatest))), of(holds(r(a))), "X" + "9223372036854775807 a"},
		{of(holds(r(greatest))), of(holds(r(greatest))), "X9223372036854775807 X9223372036854775807"},
		{of(holds(api.T{F: math.MaxInt})), of(holds(api.T{F: math.MaxInt})), ""},
		{of(holds(api.T{F: math.MaxInt})), of(holds(api.T{F: math.MaxInt - 1})), none},
		{of(holds(api.T{F: 8, L: []api.T{}})), of(holds(r())), ""},
	} {
		s, ok := By(k.c, k.d)
		if ok != (k.by != none) || ok && texts(s) != k.by || Is(k.c, k.d) != ok {
			t.Errorf("P18.1: %d: By(%s, %s) = %q, %v, want %q", n, text(k.c), text(k.d), texts(s), ok, k.by)
		}
		for _, bound := range s {
			if !bare(bound.T) {
				t.Errorf("P18.1: %d: By(%s, %s) tells parts of variables", n, text(k.c), text(k.d))
			}
		}
	}
	expectBy(t, "loaded", of(holds(r(loaded(0), x(1))), alike(x(1), loaded(2))), of(alike(a, loaded(0)), holds(r(loaded(1), loaded(0)))))
}

func TestSomeAndThose(t *testing.T) {
	for _, k := range []struct {
		l     []string
		c     string
		some  int
		those []int
	}{
		// An empty list.
		{nil, "p", -1, nil},
		{nil, "$false", -1, nil},
		// None, one, several.
		{[]string{"q"}, "p", -1, nil},
		{[]string{"q", "~p", "r(a)", "p | q | r(X)"}, "p | q", 0, []int{3}},
		{[]string{"~q", "~p", "r(a)", "p | q | r(X)"}, "p | q", -1, []int{3}},
		{[]string{"~q", "~p", "r(a)", "p"}, "p | q", 3, nil},
		{[]string{"p"}, "p", 0, []int{0}},
		{[]string{"r(a)", "r(X)", "r(b)", "r(Y)"}, "r(a)", 0, []int{0}},
		{[]string{"r(b)", "r(X)", "r(a)", "r(Y)"}, "r(a)", 1, []int{2}},
		{[]string{"r(b)", "r(X)", "r(a)", "~r(Y)", "r(Y)"}, "r(Z)", 1, []int{0, 1, 2, 4}},
		{[]string{"p | q", "q | p", "q", "~p"}, "p", -1, []int{0, 1}},
		{[]string{"p | q", "q | p", "q", "~p"}, "p | q | ~r(a)", 0, nil},
		// The clause without literals.
		{[]string{"p", "$false", "$false"}, "p | q", 0, nil},
		{[]string{"q", "$false", "$false"}, "p", 1, nil},
		{[]string{"q", "$false", "r(X)"}, "$false", 1, []int{0, 1, 2}},
	} {
		l, c := readAll(t, k.l...), read(t, k.c)
		if n := Some(l, c); n != k.some {
			t.Errorf("P18.1: Some(%q, %s) = %d, want %d", k.l, k.c, n, k.some)
		}
		if places := Those(c, l); !slices.Equal(places, k.those) {
			t.Errorf("P18.1: Those(%s, %q) = %d, want %d", k.c, k.l, places, k.those)
		}
		expectAmong(t, "known", l, c)
	}
	if Some([]api.Clause{}, nil) != -1 || len(Those(nil, []api.Clause{})) > 0 || Some([]api.Clause{nil}, nil) != 0 {
		t.Error("P18.1: Some and Those of nothing")
	}
}

func TestStrictly(t *testing.T) {
	for _, k := range []struct {
		c, d string
		is   bool
	}{
		// The same clause, and variants.
		{"$false", "$false", false},
		{"p", "p", false},
		{"r(X)", "r(X)", false},
		{"r(X)", "r(Y)", false},
		{"r(X) | g(Y) = X", "r(Y) | g(X) = Y", false},
		{"r(X) | g(Y) = X", "Z = g(W) | r(Z)", false},
		{"p | q", "q | p", false},
		// Neither subsumes the other one.
		{"p", "q", false},
		{"r(a)", "r(b)", false},
		{"f(X,X) = a", "f(X,b) = a", false},
		// The one way, and the other way.
		{"$false", "p", true},
		{"p", "$false", false},
		{"p", "p | q", true},
		{"p | q", "p", false},
		{"r(X)", "r(a)", true},
		{"r(a)", "r(X)", false},
		{"f(X,Y) = a", "f(X,X) = a", true},
		{"f(X,X) = a", "f(X,Y) = a", false},
		{"r(X)", "r(X) | r(Y)", true},
		{"p", "p | p", true},
		{"r(X) | r(Y)", "r(X) | r(X)", false},
		{"r(X) | r(X)", "r(X) | r(Y)", false},
		{"r(X) | r(Y)", "r(X) | r(a)", true},
		{"r(X) | r(a)", "r(a) | p", true},
	} {
		c, d := read(t, k.c), read(t, k.d)
		if is := Strictly(c, d); is != k.is {
			t.Errorf("P18.1: Strictly(%s, %s) = %v", k.c, k.d, is)
		}
		expectAmong(t, "known", []api.Clause{d}, c)
	}
}

// expectSoon asks of clauses of which there are too many ways to try them all.
func expectSoon(t *testing.T, name string, c, d api.Clause, want bool) {
	t.Helper()
	s, ok := By(c, d)
	if ok != want || Is(c, d) != want || ok && !eachIsOne(applied(s, c), d) {
		t.Errorf("P18.1: %s: %v", name, ok)
	}
}

// applied is c with its bindings, which have each variable.
func applied(s subst.S, c api.Clause) api.Clause {
	all := map[int]api.T{}
	for _, b := range s {
		all[b.V] = b.T
	}
	var list api.Clause
	for _, l := range c {
		list = append(list, api.Lit{Neg: l.Neg, A: filled(l.A, all), B: filled(l.B, all)})
	}
	return list
}

func filled(t api.T, all map[int]api.T) api.T {
	if t.F < 0 {
		return all[-1-t.F]
	}
	var list []api.T
	for _, part := range t.L {
		list = append(list, filled(part, all))
	}
	return api.T{F: t.F, L: list}
}

const many = 60

// manyOf has literals r of variables, and of as many symbols.
func manyOf() (c, d api.Clause, vars, symbols []api.T) {
	for n := range many {
		vars = append(vars, x(n))
		symbols = append(symbols, symbol(100+n))
		c = append(c, holds(r(vars[n])))
		d = append(d, holds(r(symbols[n])))
	}
	return c, d, vars, symbols
}

func TestTooManyWays(t *testing.T) {
	c, d, vars, symbols := manyOf()
	all := slices.Repeat([]api.T{a}, many)
	first := append(slices.Clone(all), symbols[many-1])[1:]
	last := slices.Clone(symbols)
	slices.Reverse(last)
	for _, k := range []struct {
		name string
		c, d api.Lit
		want bool
	}{
		{"what none of d is", holds(p), holds(a), false},
		{"the first variable", holds(symbol(9, vars[0])), holds(symbol(9, a)), false},
		{"the first variable, at last", holds(symbol(9, vars[0])), holds(symbol(9, symbols[many-1])), true},
		{"a variable amid", holds(symbol(9, vars[many/2])), holds(symbol(9, a)), false},
		{"all variables", holds(symbol(9, vars...)), holds(symbol(9, all...)), false},
		{"all but one", holds(symbol(9, vars...)), holds(symbol(9, first...)), false},
		{"all at other places", holds(symbol(9, vars...)), holds(symbol(9, last...)), true},
		{"two that are one", holds(symbol(9, vars[3], vars[40])), holds(symbol(9, symbols[2], a)), false},
	} {
		expectSoon(t, k.name, append(slices.Clip(c), k.c), append(slices.Clip(d), k.d), k.want)
		expectSoon(t, k.name+", first", append(of(k.c), c...), append(of(k.d), d...), k.want)
	}
	same := slices.Repeat(d[:1], many)
	expectSoon(t, "one many times", append(slices.Clip(c), holds(p)), append(slices.Clip(same), holds(a)), false)
	expectSoon(t, "pairs", append(chain(many), holds(p)), append(ring(many), holds(a)), false)
	expectSoon(t, "as long a chain", chain(many), append(ring(many), holds(a)), true)
}

// chain has pairs of variables, of which one is in the next one too.
func chain(length int) api.Clause {
	var c api.Clause
	for n := range length {
		c = append(c, holds(r(x(n), x(n+1))))
	}
	return c
}

// ring has pairs of symbols: from each to the next two.
func ring(length int) api.Clause {
	var c api.Clause
	for n := range length {
		one, next, other := symbol(100+n), symbol(100+(n+1)%length), symbol(100+(n+2)%length)
		c = append(c, holds(r(one, next)), holds(r(one, other)))
	}
	return c
}

func TestManyLiterals(t *testing.T) {
	const length = 1000
	var c, d api.Clause
	for n := range length {
		c = append(c, holds(r(x(n), symbol(100+n))))
		d = append(d, holds(r(symbol(100+n), symbol(100+length-1-n))))
	}
	s, ok := By(c, d)
	if !ok || len(s) != length {
		t.Fatalf("P18.1: of many literals: %d, %v", len(s), ok)
	}
	for n, one := range s {
		if one.V != n || one.T.F != 100+length-1-n {
			t.Fatalf("P18.1: of many literals: %v at the place %d", one, n)
		}
	}
	if Is(c, d[1:]) || Is(append(c[:length-1:length-1], holds(p)), d) {
		t.Error("P18.1: of many literals")
	}
	var vars api.Clause
	for n := range 30 * length {
		vars = append(vars, holds(r(x(n))))
	}
	if s, ok := By(vars, vars); !ok || len(s) != len(vars) || s[len(s)-1].T.F != -1 {
		t.Errorf("P18.1: of very many literals: %v", ok)
	}
}

func deep(depth int, inside api.T) api.T {
	for range depth {
		inside = g(inside)
	}
	return inside
}

func TestDeepTerms(t *testing.T) {
	const depth = 1 << 16
	c := of(alike(deep(depth-1, x(0)), x(1)), unlike(x(1), x(0)))
	d := of(unlike(b, a), alike(b, deep(depth-1, a)))
	if s, ok := By(c, d); !ok || texts(s) != "X0 a, X1 b" {
		t.Errorf("P18.1: of deep terms: %v", ok)
	}
	if Is(d, c) || !Strictly(c, d) || !Is(c, c) {
		t.Error("P18.1: of deep terms")
	}
	if s, ok := By(of(holds(r(x(0), x(0)))), of(holds(r(deep(depth-2, a), deep(depth-2, a))))); !ok || len(s) != 1 {
		t.Errorf("P18.1: of a deep term, twice: %v", ok)
	}
	if Is(of(holds(r(x(0), x(0)))), of(holds(r(deep(depth-2, a), deep(depth-2, b))))) {
		t.Error("P18.1: of two deep terms")
	}
}
