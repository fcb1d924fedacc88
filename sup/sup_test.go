package sup

import (
	"math"
	"reflect"
	"slices"
	"strconv"
	"testing"

	"sorites/api"
	"sorites/clause"
	"sorites/parse"
	"sorites/print"
)

func symbol(f int, list ...api.T) api.T { return api.T{F: f, L: list} }

func x(n int) api.T { return api.T{F: -1 - n} }

// loaded is a variable with parts, which count for nothing.
func loaded(n int) api.T {
	return api.T{F: -1 - n, L: []api.T{symbol(1), x(0), g(a), symbol(7, x(1), x(9))}}
}

// endless is a variable within itself: who goes through its parts never ends.
func endless(n int) api.T {
	t := api.T{F: -1 - n, L: make([]api.T, 1)}
	t.L[0] = t
	return t
}

var (
	truth = symbol(0)
	a     = symbol(1)
	b     = symbol(2)
	p     = symbol(6)
	q     = symbol(7)
)

func g(t api.T) api.T { return symbol(3, t) }

func f(t, u api.T) api.T { return symbol(5, t, u) }

func r(t api.T) api.T { return symbol(8, t) }

func alike(a, b api.T) api.Lit { return api.Lit{A: a, B: b} }

func unlike(a, b api.T) api.Lit { return api.Lit{Neg: true, A: a, B: b} }

func holds(a api.T) api.Lit { return alike(a, truth) }

func fails(a api.T) api.Lit { return unlike(a, truth) }

func of(list ...api.Lit) api.Clause { return list }

func told(list ...string) []string { return list }

func TestExample(t *testing.T) {
	sig, list, _ := parse.Parse("f(X) = X. p(f(a)).")
	if got := print.All(sig, Into(list[0], list[1])); got != "p(a).\n" {
		t.Errorf("P16.1: Into of the chapter's example: %s", got)
	}
	if got := print.All(sig, Into(list[1], list[0])); got != "" {
		t.Errorf("P16.1: Into of the chapter's example, the other way round: %s", got)
	}
	if got := print.All(sig, Both(list[1], list[0])); got != "p(a).\n" {
		t.Errorf("P16.1: Both of the chapter's example: %s", got)
	}
}

// pair has the sources of two clauses, and what follows from them.
type pair struct {
	c, d string
	want []string
}

func expectInto(t *testing.T, pairs []pair) {
	t.Helper()
	for _, k := range pairs {
		c, d := read(t, k.c), read(t, k.d)
		if got := texts(Into(c, d)); !slices.Equal(got, k.want) {
			t.Errorf("P16.1: Into(%s; %s) = %q, want %q", k.c, k.d, got, k.want)
		}
		expectByWords(t, "known", c, d)
		expectByWords(t, "known, the other way round", d, c)
	}
}

func expectFree(t *testing.T, pairs []pair) {
	t.Helper()
	for _, k := range pairs {
		c, d := read(t, k.c), read(t, k.d)
		if got := texts(Free(c, d)); !slices.Equal(got, k.want) {
			t.Errorf("P16.2: Free(%s; %s) = %q, want %q", k.c, k.d, got, k.want)
		}
		expectByWords(t, "known", c, d)
		expectByWords(t, "known, the other way round", d, c)
	}
}

func TestNoLiterals(t *testing.T) {
	for _, none := range []api.Clause{nil, {}, make(api.Clause, 0, 3)} {
		for _, c := range []api.Clause{none, read(t, "p"), read(t, "X = Y | g(X) = a"), read(t, "~p | X != a")} {
			expectByWords(t, "without literals", none, c)
			for _, list := range [][]api.Clause{Into(none, c), Into(c, none), Both(none, c), Both(c, none), Free(none, c), Free(c, none)} {
				if len(list) != 0 {
					t.Errorf("P16.1: of no literals and %s follows %q", text(c), texts(list))
				}
			}
		}
	}
}

func TestPlaces(t *testing.T) {
	expectInto(t, []pair{
		{"g(X) = X", "r(g(a))", told("r(a)")},
		{"a = b", "f(b,b) = g(b)", told("f(a,b) = g(b)", "f(b,a) = g(b)")},
		{"b = a", "r(f(g(b),b))", told("r(f(g(a),b))", "r(f(g(b),a))")},
		{"g(X) = a", "g(g(g(a))) = b", told("a = b", "g(a) = b", "g(g(a)) = b")},
		{"f(X,Y) = X", "f(f(a,b),f(b,a)) = b", told("f(a,b) = b", "f(a,f(b,a)) = b", "f(f(a,b),b) = b")},
		{"p", "p", told("$true")},
		{"g(a) = b", "g(a) = a", told("b = a")},
		// At variables nothing is put.
		{"g(a) = a", "r(X)", nil},
		{"g(a) = a", "g(X) = X", told("a = a")},
		{"g(a) = a", "f(X,g(X)) = b", told("f(a,a) = b")},
		{"g(a) = a", "X = Y | X = g(Y)", told("X0 = a | a = X0")},
		{"X = Y", "Z = V", nil},
		// What stands in what is put is no place any more.
		{"g(X) = X", "r(g(g(g(b))))", told("r(g(g(b)))", "r(g(g(b)))", "r(g(g(b)))")},
		// No side of one has a unifier with a part of one of the other one.
		{"g(a) = b", "r(g(b))", nil},
		{"g(X) = a", "r(h(X))", nil},
		{"f(X,X) = X", "r(f(a,b))", nil},
		{"f(X,g(X)) = b", "r(f(Y,Y))", nil},
	})
}

// TestNumbersOfVariables: the second clause's are new ones.
func TestNumbersOfVariables(t *testing.T) {
	expectInto(t, []pair{
		{"g(X) = X", "r(g(X))", told("r(X0)")},
		{"f(X,Y) = X", "r(f(X,Y))", told("r(X0)")},
		{"f(X,Y) = X", "r(f(Y,g(X))) | r(X)", told("r(X3) | r(X0)")},
		{"g(g(X)) = X", "g(g(X)) = X", told("X0 = X0", "g(X0) = g(X0)")},
		{"f(X,g(Y)) = Y", "r(f(g(X),Y))", told("r(X1)")},
		{"g(X) = a | r(g(X))", "r(f(X,Y)) | ~r(g(X))", told("g(X0) = a | r(f(X0,X2)) | ~$true")},
		// One of them has no variables.
		{"g(a) = a", "f(g(a),X) = b | r(X)", told("r(X0) | f(a,X0) = b")},
		{"f(X,Y) = X", "r(f(a,b))", told("r(a)")},
		{"f(X,Y) = a | r(X)", "r(f(b,b))", told("r(b) | r(a)")},
	})
	for _, k := range []struct {
		c, d api.Clause
		want string
	}{
		{of(alike(g(x(7)), x(7))), of(holds(r(g(x(0)))), alike(x(3), a)), "X11 = a | r(X7)"},
		{of(alike(g(x(2)), x(2))), of(holds(r(g(g(x(0))))), alike(x(1), a)), "X4 = a | r(g(X2))"},
		{of(alike(f(g(x(0)), x(4)), a), alike(x(4), x(0))), of(holds(r(f(x(1), x(0)))), alike(b, x(2))), "X4 = X0 | b = X7 | r(a)"},
		{of(alike(g(a), a)), of(holds(r(f(g(a), x(5)))), alike(b, x(5))), "b = X5 | r(f(a,X5))"},
		{of(alike(x(9), x(9)), alike(b, a)), of(holds(r(f(x(0), b))), alike(g(x(0)), a)), "X9 = X9 | g(X10) = a | r(f(X10,a))"},
	} {
		if got := texts(Into(k.c, k.d)); !slices.Contains(got, k.want) {
			t.Errorf("P16.1: Into(%s; %s) = %q, want %q", text(k.c), text(k.d), got, k.want)
		}
		expectByWords(t, "numbers of variables", k.c, k.d)
		expectByWords(t, "numbers of variables", k.d, k.c)
	}
}

func TestNeg(t *testing.T) {
	expectInto(t, []pair{
		{"p", "~p", told("~$true")},
		{"~p", "p", nil},
		{"~p", "~p", nil},
		{"g(a) = a", "g(g(a)) != b", told("g(a) != b")},
		{"g(a) = a", "b != g(a)", told("a != b")},
		{"g(a) != a", "r(g(a))", nil},
		{"g(a) != a", "~r(g(a))", nil},
		{"X != Y", "r(g(a))", nil},
		{"g(X) = X | ~p", "r(g(a))", nil},
		{"~p | g(X) = X", "r(g(a))", nil},
		{"g(X) = X", "~r(g(a)) | r(b)", told("r(b) | ~r(a)")},
		{"g(X) = X | p", "~r(g(Y)) | X = Y", told("p | X2 = X0 | ~r(X0)")},
	})
}

func TestLookedAt(t *testing.T) {
	expectInto(t, []pair{
		{"p | q", "~p", nil},
		{"p | q", "~q", told("p | ~$true")},
		{"q | p", "~q", told("p | ~$true")},
		{"p", "p | q", nil},
		{"q", "p | q", told("p | $true")},
		{"q", "~q | p", told("p | ~$true")},
		{"p", "~q | p", nil},
		{"q", "~r(a) | ~q", nil},
		{"q", "~q | ~p", told("~p | ~$true")},
		{"p", "~q | ~p", nil},
		{"g(a) = b", "~q | ~r(g(a))", told("~q | ~r(b)")},
		{"g(X) = a | f(X,Y) = a", "r(g(b))", nil},
		{"r(g(X)) | g(X) = a", "r(g(b))", told("g(b) = a | $true")},
		{"g(X) = a | g(Y) = a", "r(g(b))", told("g(X1) = a | r(a)", "g(X0) = a | r(a)")},
		{"g(b) = a", "r(g(b)) | g(b) = h(g(b))", told("g(b) = h(g(b)) | r(a)")},
		{"g(b) = a", "r(g(X)) | r(g(Y))", told("r(g(X1)) | r(a)", "r(g(X0)) | r(a)")},
	})
}

// TestSidesOfTheFirst has sides that are the same, less, and neither, also only
// once the unifier is put in.
func TestSidesOfTheFirst(t *testing.T) {
	expectInto(t, []pair{
		{"a = a", "r(a)", nil},
		{"X = X", "r(a)", nil},
		{"g(X) = g(X)", "r(g(a))", nil},
		{"a = b", "r(a)", nil},
		{"a = b", "r(b)", told("r(a)")},
		{"b = a", "r(b)", told("r(a)")},
		{"b = a", "r(a)", nil},
		{"g(a) = h(a)", "r(h(a))", told("r(g(a))")},
		// Neither, and neither still: each side is put in the other one's place.
		{"f(X,Y) = f(Y,X)", "r(f(X,Y))", told("r(f(X1,X0))", "r(f(X0,X1))")},
		{"X = g(Y)", "r(g(X))", told("g(X1)", "r(g(X1))", "r(X0)")},
		{"f(X,g(a)) = Y", "r(f(b,Z))", told("r(X1)", "f(X0,g(a))", "r(f(X0,g(a)))")},
		// Neither, and with the unifier less.
		{"f(X,Y) = f(Y,X)", "r(f(a,b))", nil},
		{"X = b", "r(a)", told("b")},
		{"X = g(Y)", "g(g(a)) = h(b)", told("g(X1) = h(b)", "g(g(X1)) = h(b)", "X0 = h(b)", "g(X0) = h(b)")},
		// Neither, and with the unifier the same.
		{"f(X,Y) = f(Y,X)", "r(f(X,X))", nil},
		{"f(X,a) = f(a,X)", "r(f(a,a))", nil},
		{"X = a", "r(a)", told("a", "r(X0)")},
		// Neither, and with the unifier greater.
		{"f(X,Y) = f(Y,X)", "r(f(b,a))", told("r(f(a,b))", "r(f(a,b))")},
		{"X = a", "g(g(b)) = h(a)", told("a = h(a)", "g(a) = h(a)", "g(g(a)) = h(a)")},
		{"X = b", "r(g(a))", told("b", "r(b)")},
	})
}

// TestSidesOfTheSecond has the same, of the clause that something is put into.
func TestSidesOfTheSecond(t *testing.T) {
	expectInto(t, []pair{
		{"g(a) = a", "g(a) = g(a)", nil},
		{"g(a) = a", "g(a) != g(a)", nil},
		{"g(a) = a", "g(a) = h(g(a))", told("h(a) = g(a)")},
		{"g(a) = a", "h(g(a)) = g(a)", told("h(a) = g(a)")},
		{"g(a) = a", "g(a) != h(g(a))", told("h(a) != g(a)")},
		{"g(a) = a", "b = f(g(a),a)", told("f(a,a) = b")},
		{"g(b) = a", "g(b) = g(X)", told("a = g(X0)")},
		{"b = a", "a = b", told("a = a")},
		{"g(h(a)) = a", "g(X) = f(X,b)", nil},
		// Neither, and neither still.
		{"g(a) = a", "f(g(a),X) = f(X,g(a))", told("f(a,X0) = f(X0,g(a))", "f(X0,a) = f(g(a),X0)")},
		{"g(a) = a", "X = g(a) | Y = g(b)", told("X1 = g(b) | a = X0")},
		// Neither, and with the unifier less.
		{"g(a) = a", "f(g(X),b) = f(g(b),X)", nil},
		{"f(a,b) = a", "f(X,Y) = f(Y,X)", nil},
		{"g(a) = a", "f(g(X),g(b)) != f(g(b),g(X))", told("f(g(b),a) != f(g(a),g(b))")},
		// Neither, and with the unifier the same.
		{"g(b) = a", "f(g(X),b) = f(g(b),X)", told("f(a,X0) = f(g(X0),b)")},
		{"g(b) = a", "g(X) = g(b)", told("a = g(X0)")},
		// Neither, and with the unifier greater.
		{"g(h(a)) = a", "f(g(X),b) = f(g(b),X)", told("f(a,b) = f(g(b),h(a))")},
		{"f(b,a) = a", "f(Y,Z) = f(Z,Y)", told("a = f(a,b)", "a = f(a,b)")},
	})
}

// TestOrder has clauses of which much follows.
func TestOrder(t *testing.T) {
	expectInto(t, []pair{
		{"g(X) = a | g(Y) = b", "f(g(a),g(b)) = b", told(
			"g(X1) = b | f(a,g(b)) = b", "g(X1) = b | f(g(a),a) = b",
			"g(X0) = a | f(b,g(b)) = b", "g(X0) = a | f(g(a),b) = b")},
		{"g(Z) = a", "f(g(a),X) = f(X,g(a)) | f(b,Y) = f(Y,g(b))", told(
			"f(b,X2) = f(X2,g(b)) | f(a,X1) = f(X1,g(a))",
			"f(b,X2) = f(X2,g(b)) | f(X1,a) = f(g(a),X1)",
			"f(g(a),X1) = f(X1,g(a)) | f(X2,a) = f(b,X2)")},
		{"f(X,a) = f(a,X) | Y = a", "r(f(b,a)) | r(f(X,a))", told(
			"X1 = a | r(f(X2,a)) | r(f(a,b))",
			"X1 = a | r(f(b,a)) | r(f(a,X0))",
			"f(X0,a) = f(a,X0) | r(f(X2,a)) | a", "f(X0,a) = f(a,X0) | r(f(X2,a)) | r(a)", "f(X0,a) = f(a,X0) | r(f(X2,a)) | r(f(a,a))",
			"f(X0,a) = f(a,X0) | r(f(b,a)) | a", "f(X0,a) = f(a,X0) | r(f(b,a)) | r(a)",
			"f(X0,a) = f(a,X0) | r(f(X2,a)) | r(f(b,X1))", "f(X0,a) = f(a,X0) | r(f(b,a)) | r(f(X2,X1))")},
		{"X = Y", "g(a) = b", told("X1 = b", "g(X1) = b", "X0 = b", "g(X0) = b")},
	})
}

// TestHowManyFollow counts what follows from clauses each of whose sides has a
// unifier at each place: each way is told, and told once.
func TestHowManyFollow(t *testing.T) {
	c, d := of(alike(x(0), x(1)), alike(x(2), x(3)), alike(x(4), x(5))), of(alike(g(f(a, b)), x(0)), alike(x(1), g(f(b, a))))
	list := texts(Into(c, d))
	slices.Sort(list)
	if got := len(slices.Compact(list)); got != 3*2*2*4 || len(list) != got {
		t.Errorf("P16.1: %d follow, %d of them unlike", len(list), got)
	}
	expectByWords(t, "each with each", c, d)
	many := slices.Repeat(of(holds(p)), 5)
	if got, want := texts(Into(many, many)), slices.Repeat(told("p | p | p | p | p | p | p | p | $true"), 5*5); !slices.Equal(got, want) {
		t.Errorf("P16.1: Into of one literal five times: %q", got)
	}
	expectByWords(t, "one literal five times", many, many)
}

func TestWhatStandsWhere(t *testing.T) {
	expectInto(t, []pair{
		{"p | r(a) | b = a", "q | ~r(a) | g(a) = b", told("p | b = a | q | g(a) = b | ~$true")},
		{"r(X) | p | a = b", "r(Y) | a = Y | p", told("p | a = b | a = X0 | p | $true")},
		{"p | q", "p | ~q", told("p | p | ~$true")},
		{"g(a) = a | p", "g(g(a)) = b | p", told("p | p | g(a) = b")},
		{"r(a) | p | p", "p | ~p | ~r(a)", told("p | p | p | ~p | ~$true")},
		{"g(X) = X", "a = a | f(Y,g(Y)) = Z", told("a = a | f(X0,X0) = X2")},
		{"g(b) = a", "g(b) = b", told("a = b")},
		{"g(b) = b", "g(b) = b", told("b = b")},
		{"g(b) = X | p", "a = f(g(b),Y)", told("p | f(X0,X1) = a", "p | g(b) = a")},
	})
}

func TestBoth(t *testing.T) {
	for _, k := range []pair{
		{"g(X) = X", "g(g(a)) = b", told("g(a) = b", "g(a) = b", "b = g(a)")},
		{"g(X) = a", "g(g(b)) = b", told("a = b", "g(a) = b", "b = a")},
		{"g(g(b)) = b", "g(X) = a", told("b = a", "a = b", "g(a) = b")},
		{"p", "~p", told("~$true")},
		{"~p", "p", told("~$true")},
		{"p", "p", told("$true", "$true")},
		{"q", "p", nil},
		{"f(X,a) = X", "f(b,Y) = Y", told("b = a", "a = b")},
		{"f(X,a) = b", "f(b,Y) = g(Z)", told("b = g(X2)", "g(X1) = b")},
	} {
		c, d := read(t, k.c), read(t, k.d)
		if got := texts(Both(c, d)); !slices.Equal(got, k.want) {
			t.Errorf("P16.1: Both(%s; %s) = %q, want %q", k.c, k.d, got, k.want)
		}
		expectByWords(t, "both", c, d)
	}
}

func TestFree(t *testing.T) {
	expectFree(t, []pair{
		{"g(X) = X", "r(g(a))", told("r(a)", "g(r(g(a)))", "r(g(g(a)))", "r(g(g(a)))", "g($true) = r(g(a))")},
		{"p", "~p", told("~$true", "p != p")},
		{"~p", "p", nil},
		{"g(a) != a", "r(g(a))", nil},
		{"g(a) = b", "r(g(X))", told("r(b)")},
		{"g(a) = b", "r(X)", nil},
		// Literals that aren't looked at.
		{"p | q", "~p", told("q | ~$true", "q | p != p", "p | q != p")},
		{"~p | q", "~q", told("~p | ~$true", "~p | q != q")},
		{"~p | g(a) = b | ~q", "~r(a) | r(g(a))", told("~p | ~q | ~r(a) | r(b)")},
		{"q", "~q | p", told("p | ~$true", "p | q != q", "~q | q = p")},
		{"g(X) = a | f(X,Y) = b", "r(g(b))", told("f(b,X1) = b | r(a)", "g(X0) = a | r(g(f(X0,X1)))")},
		{"g(a) = a", "~r(g(a)) | ~r(f(a,g(a)))", told("~r(f(a,g(a))) | ~r(a)", "~r(g(a)) | ~r(f(a,a))", "~r(f(a,g(a))) | ~r(g(g(a)))", "~r(g(a)) | ~r(f(g(a),g(a)))", "~r(g(a)) | ~r(f(a,g(g(a))))")},
		// Sides that are the same, or less.
		{"a = a", "r(a)", told("r(a)", "r(a)")},
		{"a = b", "r(a)", told("r(b)")},
		{"b = a", "r(a)", told("r(b)")},
		{"a = b", "g(a) = g(b)", told("g(b) = g(b)", "g(a) = g(a)")},
		{"b = a", "a = g(b)", told("g(a) = a", "b = g(b)")},
		{"X = X", "a = b", told("a = b", "b = a", "a = b", "b = a")},
		{"g(a) = b", "g(X) = g(X)", told("b = g(a)", "b = g(a)")},
		{"f(X,Y) = f(Y,X)", "r(f(a,b))", told("r(f(b,a))", "r(f(b,a))")},
		{"f(X,Y) = f(Y,X)", "r(f(X,X))", told("r(f(X0,X0))", "r(f(X0,X0))")},
		{"h(X) = g(g(X))", "r(h(a))", told("r(g(g(a)))")},
	})
}

// TestVariablesWithParts: what lies in them is no place, is neither unified nor
// told, and nothing is put into it.
func TestVariablesWithParts(t *testing.T) {
	for _, k := range []struct {
		name string
		c, d api.Clause
		want []string
	}{
		{"of the first", of(alike(g(loaded(0)), loaded(0)), alike(loaded(3), x(3))), of(holds(r(g(b)))), told("X3 = X3 | r(b)")},
		{"of the second", of(alike(g(x(0)), x(0))), of(holds(r(f(loaded(0), g(loaded(1))))), alike(loaded(0), a)), told("X1 = a | r(f(X1,X0))")},
		{"places", of(alike(g(a), a)), of(holds(r(loaded(0)))), nil},
		{"a side of the second", of(alike(g(a), a)), of(alike(loaded(0), g(a))), told("a = X0")},
		{"a side of the first", of(alike(loaded(0), a)), of(holds(r(b))), told("a", "r(a)")},
		{"the same but for parts", of(alike(g(loaded(0)), g(x(0)))), of(holds(r(g(a)))), nil},
		{"the same but for parts, of the second", of(alike(g(a), a)), of(alike(f(loaded(0), g(a)), f(x(0), g(a)))), nil},
		{"once unified", of(alike(f(loaded(0), x(1)), f(x(1), loaded(0)))), of(holds(r(f(x(2), loaded(2))))), nil},
		{"its greatest number", of(alike(g(loaded(1)), loaded(1))), of(holds(r(f(g(b), loaded(0))))), told("r(f(b,X2))")},
	} {
		if got := texts(Into(k.c, k.d)); !slices.Equal(got, k.want) {
			t.Errorf("P16.1: %s: Into tells %q, want %q", k.name, got, k.want)
		}
		expectByWords(t, k.name, k.c, k.d)
		expectByWords(t, k.name, k.d, k.c)
	}
}

// TestVariablesWithinThemselves: what has no end is not gone through.
func TestVariablesWithinThemselves(t *testing.T) {
	y, z := endless(0), endless(1)
	c, d := of(alike(g(y), y), alike(z, z)), of(holds(r(g(g(z)))), alike(y, z))
	if got := texts(Into(c, d)); !slices.Equal(got, told("X1 = X1 | X2 = X3 | r(g(X3))", "X1 = X1 | X2 = X0 | r(g(X0))")) {
		t.Errorf("P16.1: Into = %q", got)
	}
	if got := texts(Free(d, c)); len(got) == 0 {
		t.Errorf("P16.2: Free = %q", got)
	}
	if got := len(Both(c, d)); got != len(Into(c, d))+len(Into(d, c)) {
		t.Errorf("P16.1: Both tells %d", got)
	}
}

// TestStrangeSymbols has symbols with several numbers of parts, and $true with
// parts: a symbol has a unifier only with one of as many parts.
func TestStrangeSymbols(t *testing.T) {
	strange := []api.Clause{
		of(alike(symbol(5, a), symbol(5, a, a))),
		of(alike(symbol(5), symbol(5, x(0)))),
		of(alike(api.T{F: 5, L: []api.T{}}, a)),
		of(alike(symbol(0, x(0)), symbol(0, a)), holds(r(x(0)))),
		of(alike(truth, symbol(0, a))),
		of(alike(truth, p)),
		of(unlike(truth, p)),
		of(unlike(symbol(0, truth), symbol(5, symbol(5), symbol(5, x(0))))),
		of(holds(truth)),
		of(fails(truth)),
		{{}},
		{{Neg: true}},
		{{}, {}},
	}
	for _, c := range strange {
		for _, d := range strange {
			expectByWords(t, "strange", c, d)
		}
	}
	if got := Into(of(alike(symbol(5, x(0)), a)), of(holds(r(symbol(5, a, a))))); len(got) != 0 {
		t.Errorf("P16.1: Into of unlike numbers of parts: %v", got)
	}
}

// TestRoomBehindLists hands in lists with room behind them in which something
// lies: it is neither asked nor changed.
func TestRoomBehindLists(t *testing.T) {
	many := of(holds(p), alike(g(x(0)), a), holds(r(g(x(1)))), alike(x(1), f(a, x(0))), unlike(g(g(x(0))), x(1)), fails(r(g(a))))
	for n := range many {
		for m := range n {
			expectByWords(t, "with room", many[m:n], many[:n])
			expectByWords(t, "with room", many[:n], many[m:n])
			expectByWords(t, "without room", many[m:n:n], many[:m:n])
		}
	}
	parts := []api.T{x(0), a, g(x(1)), b}
	for n := range parts {
		c, d := of(alike(symbol(5, parts[:n]...), b), holds(p)), of(holds(symbol(8, symbol(5, parts[:n]...))), alike(symbol(5, parts[n:]...), a))
		expectByWords(t, "parts with room", c, d)
		expectByWords(t, "parts with room", d, c)
	}
}

// TestNothingIsKept asks the same things again, behind others and behind what
// was done to what they told.
func TestNothingIsKept(t *testing.T) {
	c, d := read(t, "f(X,Y) = X | p"), read(t, "~r(f(X,g(Y))) | X = Y")
	into, both, free := texts(Into(c, d)), texts(Both(c, d)), texts(Free(c, d))
	for range 3 {
		spoil(Into(c, d))
		spoil(Both(d, c))
		spoil(Free(c, d))
		expectByWords(t, "again", c, c)
		if !slices.Equal(texts(Into(c, d)), into) || !slices.Equal(texts(Both(c, d)), both) || !slices.Equal(texts(Free(c, d)), free) {
			t.Fatal("R6: asked again another thing is told")
		}
	}
}

// TestIntoItself hands in one clause twice, and two that share their terms.
func TestIntoItself(t *testing.T) {
	expectInto(t, []pair{
		{"p", "p", told("$true")},
		{"g(g(X)) = X", "g(g(X)) = X", told("X0 = X0", "g(X0) = g(X0)")},
		{"f(f(X,Y),Z) = f(X,f(Y,Z))", "f(f(X,Y),Z) = f(X,f(Y,Z))", told(
			"f(X0,f(X1,X2)) = f(X0,f(X1,X2))", "f(f(X0,f(X1,X2)),X5) = f(f(X0,X1),f(X2,X5))")},
	})
	for _, src := range []string{"p", "X = Y", "g(g(X)) = X", "f(X,g(Y)) = f(Y,X) | r(X)", "~r(g(X)) | g(X) = X"} {
		c := read(t, src)
		expectByWords(t, "into itself", c, c)
		expectByWords(t, "into one with the same terms", c, slices.Clone(c))
		expectByWords(t, "into a copy", c, clause.Apply(nil, c))
	}
}

// TestNumbersAtTheirEnds has variables up to the greatest number that is
// renamed, and symbols up to the greatest.
func TestNumbersAtTheirEnds(t *testing.T) {
	ends := []int{-1 - 1<<30, -2, -1, 0, 1, 1<<31 - 1, math.MaxInt - 1, math.MaxInt}
	for _, k := range ends {
		for _, l := range ends {
			for _, m := range ends {
				s, u, v := api.T{F: k}, api.T{F: l, L: []api.T{{F: m}}}, api.T{F: m, L: []api.T{{F: k}, {F: l}}}
				name := strconv.Itoa(k) + " " + strconv.Itoa(l) + " " + strconv.Itoa(m)
				expectByWords(t, name, of(alike(s, u), alike(v, s)), of(alike(u, v)))
				expectByWords(t, name, of(alike(u, v)), of(unlike(v, s), alike(s, u)))
			}
		}
	}
}

// TestNumbersBeyond asks of numbers that nothing is promised of but that it
// ends, and that what is handed in stays as it is.
func TestNumbersBeyond(t *testing.T) {
	ends := []int{math.MinInt, math.MinInt + 1, -2 - 1<<30, -2, 3}
	for _, k := range ends {
		for _, l := range ends {
			for _, m := range ends {
				c, d := of(alike(symbol(3, api.T{F: k}), api.T{F: l})), of(alike(api.T{F: m}, symbol(3, api.T{F: k})), unlike(symbol(3, api.T{F: l}), b))
				first, second := imageOf(c), imageOf(d)
				for _, told := range [][]api.Clause{Into(c, d), Both(c, d), Free(c, d), Free(d, c)} {
					expectNew(t, "a call beyond", told, c, d)
				}
				if !reflect.DeepEqual([]image{imageOf(c), imageOf(d)}, []image{first, second}) {
					t.Fatalf("R4: %v or %v was changed", first, second)
				}
			}
		}
	}
}

func chain(depth int, end api.T) api.T {
	for range depth {
		end = g(end)
	}
	return end
}

// TestDeepTerms goes to the bound on parts nested in one another.
func TestDeepTerms(t *testing.T) {
	const depth = 1<<16 - 1
	got := Into(of(alike(b, a)), of(holds(r(chain(depth-1, b)))))
	if len(got) != 1 || !clause.Same(got[0], of(holds(r(chain(depth-1, a))))) {
		t.Errorf("P16.1: Into of deep terms, at the deepest place: %d", len(got))
	}
	got = Into(of(alike(symbol(4, chain(depth-1, x(0))), x(0))), of(alike(symbol(4, chain(depth-1, b)), a)))
	if len(got) != 1 || text(got[0]) != "b = a" {
		t.Errorf("P16.1: Into of deep terms, at the top: %d", len(got))
	}
	got = Free(of(alike(b, f(a, a))), of(alike(chain(depth-1, b), a)))
	if len(got) != 1 || !clause.Same(got[0], of(alike(chain(depth-1, f(a, a)), a))) {
		t.Errorf("P16.2: Free of deep terms: %d", len(got))
	}
}

// TestLongClauses has clauses that are longer than those of a source.
func TestLongClauses(t *testing.T) {
	const many = 500
	var c, d api.Clause
	for n := range many {
		c = append(c, holds(symbol(9+n)))
		d = append(d, alike(symbol(9+n), x(n)), unlike(x(n), a))
	}
	greatest := symbol(8 + many)
	want := slices.Concat(c[:many-1], d, of(fails(r(truth))))
	if got := Into(c, append(d, fails(r(greatest)))); len(got) != 1 || !clause.Same(got[0], want) {
		t.Errorf("P16.1: Into of long clauses: %d", len(got))
	}
	want = slices.Concat(c[:many-1], d[:2*many-2], d[2*many-1:], of(alike(truth, x(many-1))))
	if got := Free(c, d); len(got) < many || !slices.ContainsFunc(got, func(told api.Clause) bool { return clause.Same(told, want) }) {
		t.Errorf("P16.2: Free of long clauses: %d", len(got))
	}
}
