package eq

import (
	"math"
	"slices"
	"strconv"
	"testing"

	"sorites/api"
	"sorites/parse"
	"sorites/print"
)

func symbol(f int, list ...api.T) api.T { return api.T{F: f, L: list} }

func x(n int) api.T { return api.T{F: -1 - n} }

// loaded is a variable with parts, which count for nothing.
func loaded(n int) api.T {
	return api.T{F: -1 - n, L: []api.T{symbol(1), x(0), symbol(7, x(1), x(5))}}
}

// endless is a variable within itself: who goes through its parts never ends.
func endless(n int) api.T {
	t := api.T{F: -1 - n, L: make([]api.T, 1)}
	t.L[0] = t
	return t
}

var (
	truth = symbol(0)
	a     = symbol(1)
	b     = symbol(2)
	p     = symbol(6)
	q     = symbol(7)
)

func g(t api.T) api.T { return symbol(3, t) }

func f(t, u api.T) api.T { return symbol(5, t, u) }

func r(t api.T) api.T { return symbol(8, t) }

func alike(a, b api.T) api.Lit { return api.Lit{A: a, B: b} }

func unlike(a, b api.T) api.Lit { return api.Lit{Neg: true, A: a, B: b} }

func holds(a api.T) api.Lit { return alike(a, truth) }

func fails(a api.T) api.Lit { return unlike(a, truth) }

func of(list ...api.Lit) api.Clause { return list }

func TestExample(t *testing.T) {
	sig, list, _ := parse.Parse("~X = f(a) | p(X).")
	if got := print.All(sig, Res(list[0])); got != "p(f(a)).\n" {
		t.Errorf("P15.1: Res of the chapter's example: %s", got)
	}
	if got := Factor(list[0]); len(got) != 0 {
		t.Errorf("P15.1: Factor of the chapter's example: %s", print.All(sig, got))
	}
}

// known is a source, and what follows from it.
type known struct {
	src  string
	want []string
}

func told(list ...string) []string { return list }

func twice(src string) []string { return told(src, src) }

func TestKnownRes(t *testing.T) {
	for _, k := range []known{
		{"$false", nil},
		{"p", nil},
		{"a = a", nil},
		{"X = X", nil},
		{"a = b | X = Y | r(X) | p", nil},
		{"a != a", told("$false")},
		{"a != b", nil},
		{"X != X", told("$false")},
		{"X != Y", told("$false")},
		{"X != a", told("$false")},
		{"a != X", told("$false")},
		{"X != g(Y)", told("$false")},
		{"g(Y) != X", told("$false")},
		{"X != g(X)", nil},
		{"g(X) != X", nil},
		{"g(X) != h(Y)", nil},
		{"f(X,g(X)) != f(Y,Y)", nil},
		{"f(X,Y) != f(g(Y),g(X))", nil},
		{"f(X,a) != f(b,X)", nil},
		{"~p", nil},
		{"~r(X) | r(X)", nil},
		{"p | ~q | r(X)", nil},
		{"a != a | p", told("p")},
		{"p | a != a", told("p")},
		{"p | a != a | q", told("p | q")},
		{"X != a | r(X)", told("r(a)")},
		{"a != X | r(X)", told("r(a)")},
		{"r(X) | Y != X | r(Y)", told("r(X0) | r(X0)")},
		{"r(X) | X != Y | r(Y)", told("r(X0) | r(X0)")},
		{"X != g(Y) | X = Y | r(X)", told("g(X1) = X1 | r(g(X1))")},
		{"f(X,b) != f(g(Y),Y) | r(X)", told("r(g(b))")},
		{"f(X,Y) != f(Y,X) | f(X,Y) = g(Y)", told("f(X0,X0) = g(X0)")},
		{"f(X,X) != f(Y,Z) | f(Y,Z) = X", told("f(X0,X0) = X0")},
		{"X != f(Y,Z) | X = h(X)", told("f(X1,X2) = h(f(X1,X2))")},
	} {
		expectRes(t, "known", read(t, k.src), k.want)
		expectByWords(t, "known", read(t, k.src))
	}
}

// TestKnownResOfSeveral has clauses in which several literals are Neg: only the
// first one of the greatest weight is looked at.
func TestKnownResOfSeveral(t *testing.T) {
	for _, k := range []known{
		{"a != a | X != X", told("X0 != X0")},
		{"X != X | a != a", told("a != a")},
		{"X != a | X != b | X = g(b)", told("a != b | a = g(b)")},
		{"X != a | X != a", told("a != a")},
		{"a != b | X != X", nil},
		{"a != a | g(a) != b", nil},
		{"g(a) != b | a != a", nil},
		{"X != Y | X != g(Z) | r(Z)", told("g(X2) != X1 | r(X2)")},
		{"r(Z) | X != g(Z) | X != Y", told("r(X0) | g(X0) != X2")},
		{"X != a | ~r(X) | r(b)", nil},
		{"X != a | ~p | r(X)", told("~p | r(a)")},
		{"~p | X != a | r(X)", nil},
	} {
		expectRes(t, "several", read(t, k.src), k.want)
		expectByWords(t, "several", read(t, k.src))
	}
}

func TestResIsNotMadeNormal(t *testing.T) {
	for _, k := range []known{
		{"b = a | X != X | a = b", told("b = a | a = b")},
		{"r(X) | p | X != g(Y) | ~p", told("r(g(X1)) | p | ~p")},
		{"a = g(Y) | X != f(Z,Y) | X = X | b = X", told("a = g(X0) | f(X2,X0) = f(X2,X0) | b = f(X2,X0)")},
		{"p | p | X != a | p | q | q", told("p | p | p | q | q")},
		{"X != f(a,b) | a != a | b != a", told("a != a | b != a")},
	} {
		expectRes(t, "not made normal", read(t, k.src), k.want)
		expectByWords(t, "not made normal", read(t, k.src))
	}
}

func TestKnownFactors(t *testing.T) {
	for _, k := range []known{
		{"$false", nil},
		{"p", nil},
		{"a = b", nil},
		{"a = a", nil},
		{"X = Y", nil},
		{"a != a", nil},
		{"X != a | r(X)", nil},
		{"p | q", nil},
		{"a = b | g(a) = h(b)", nil},
		{"p | p", twice("p | ~$true")},
		{"r(X) | r(a)", twice("r(a) | ~$true")},
		{"r(X) | r(g(Y))", twice("r(g(X1)) | ~$true")},
		{"r(X) | r(Y)", twice("r(X0) | ~$true")},
		{"r(X) | p | q | r(a)", told("p | q | r(a) | ~$true", "r(a) | p | q | ~$true")},
		{"g(a) = X | g(X) = a", twice("g(a) = a | a != a")},
		{"g(a) = a | g(X) = b", told("g(a) = b | a != b", "g(a) = a | b != a")},
		{"f(X,Y) = g(X) | f(Y,X) = g(Y)", twice("f(X0,X0) = g(X0) | g(X0) != g(X0)")},
		{"X = a | X = a", slices.Repeat(told("X0 = a | a != a", "X0 = a | X0 != X0"), 2)},
		// No side of one has a unifier with one of the other one.
		{"r(g(X)) | r(X)", nil},
		{"f(X,g(X)) = a | f(Y,Y) = b", nil},
		{"f(X,a) = g(X) | f(b,X) = h(X)", nil},
	} {
		expectFactors(t, "known", read(t, k.src), k.want)
		expectByWords(t, "known", read(t, k.src))
	}
}

// TestWhichAreFactored has clauses in which not all literals are looked at, and
// such in which none is that isn't Neg.
func TestWhichAreFactored(t *testing.T) {
	for _, k := range []known{
		{"~p | r(X) | r(a)", nil},
		{"r(X) | ~p | r(a)", nil},
		{"r(X) | r(a) | a != b", nil},
		{"X = Y | Y = Z | X != X", nil},
		{"q | p | q", told("p | q | ~$true", "q | p | ~$true")},
		{"p | q | p", nil},
		{"r(X) | r(a) | r(b)", told("r(a) | r(b) | ~$true", "r(a) | r(b) | ~$true", "r(b) | r(a) | ~$true")},
		{"g(a) = a | g(a) = b", told("g(a) = a | b != a")},
		{"g(a) = b | g(a) = a", told("g(a) = a | b != a")},
		{"a = g(a) | b = g(a)", told("a = g(a) | b != a")},
		{"X = b | X = g(Y)", told("X0 = b | g(X1) != b")},
		{"b = a | b = g(X) | X = a", nil},
	} {
		expectFactors(t, "looked at", read(t, k.src), k.want)
		expectByWords(t, "looked at", read(t, k.src))
	}
}

// TestGreaterSides has sides that are the same, less, and neither, also only
// once the unifier is put in.
func TestGreaterSides(t *testing.T) {
	for _, k := range []known{
		{"a = a | a = a", nil},
		{"g(X) = g(X) | g(Y) = g(Y)", nil},
		{"X = X | X = Y", twice("X0 = X0 | X1 != X0")},
		{"a = b | a = g(a)", nil},
		{"a = g(a) | a = b", nil},
		{"g(X) = X | g(Y) = h(Y)", told("g(X0) = h(X0) | X0 != h(X0)", "g(h(X1)) = h(X1) | g(X1) != g(h(X1))")},
		{"g(g(a)) = a | X = a", told("g(g(a)) = a | a != a", "g(g(a)) = a | a != a", "g(g(a)) = a | X0 != g(g(a))")},
		// Neither, and neither still.
		{"X = Y | X = Z", told(
			"X0 = X2 | X1 != X2", "X0 = X0 | X1 != X0", "X0 = X1 | X0 != X0",
			"X0 = X1 | X2 != X1", "X0 = X0 | X2 != X0", "X0 = X1 | X0 != X0")},
		// Neither, and with the unifier less: X and g(Y), with Y become X, or X a.
		{"X = g(Y) | Y = a", nil},
		{"f(X,Y) = f(Y,X) | f(a,b) = b", told("f(a,b) = f(b,a) | b != f(b,a)", "f(b,a) = f(a,b) | b != f(b,a)")},
		// Neither, and with the unifier the same, or less.
		{"b = a | b = X", told("b = X0 | a != X0", "b = b | a != b", "b = a | X0 != a")},
		// Neither, and with the unifier greater.
		{"f(X,g(a)) = Y | f(Y,Z) = b", told("f(X0,g(a)) = b | X0 != b", "f(X0,g(a)) = X0 | b != X0")},
	} {
		expectFactors(t, "sides", read(t, k.src), k.want)
		expectByWords(t, "sides", read(t, k.src))
	}
}

// TestOrderOfFactors has clauses of which much follows, by which all that
// follows is known apart.
func TestOrderOfFactors(t *testing.T) {
	for _, k := range []known{
		{"X = Y | Z = V", told(
			"X0 = X3 | X1 != X3", "X2 = X0 | X1 != X2", "X1 = X3 | X0 != X3", "X2 = X1 | X0 != X2",
			"X0 = X1 | X3 != X1", "X0 = X1 | X3 != X0", "X0 = X1 | X2 != X1", "X0 = X1 | X2 != X0")},
		{"X = a | b = Y", told(
			"b = X1 | a != X1", "b = X0 | a != b", "b = a | X0 != b",
			"b = a | X1 != a", "X0 = a | b != a")},
		{"f(X,Y) = Z | f(V,W) = V", told(
			"f(X0,X1) = X0 | X2 != X0", "f(f(X0,X1),X4) = f(X0,X1) | X2 != f(f(X0,X1),X4)",
			"f(X3,X4) = X3 | f(X0,X1) != X3", "f(X2,X4) = X2 | f(X0,X1) != f(X2,X4)",
			"f(X0,X1) = X2 | X0 != X2", "f(X0,X1) = f(X3,X4) | X3 != f(X0,X1)")},
		{"a = g(X) | X = X | g(Y) = b", told(
			"X0 = X0 | g(X0) = b | a != b", "a = g(X0) | X0 = X0 | b != a",
			"a = g(g(X1)) | g(X1) = g(X1) | b != g(X1)", "a = g(g(X1)) | g(X1) = g(X1) | b != g(X1)")},
		{"r(Y) | a = b | r(g(X)) | p", told("a = b | r(g(X1)) | p | ~$true", "r(g(X1)) | a = b | p | ~$true")},
	} {
		expectFactors(t, "in order", read(t, k.src), k.want)
		expectByWords(t, "in order", read(t, k.src))
	}
}

// TestHowManyFollow counts what follows from literals each of whose sides has a
// unifier with each other one: each way is told, and told once.
func TestHowManyFollow(t *testing.T) {
	c := of(alike(x(0), x(1)), alike(x(2), x(3)), alike(x(4), x(5)), alike(x(6), x(7)))
	got := texts(Factor(c))
	slices.Sort(got)
	if len(got) != 4*3*4 || len(slices.Compact(got)) != 4*3*4 {
		t.Errorf("P15.1: %d follow from %s", len(got), text(c))
	}
	if got, want := texts(Factor(slices.Repeat(of(holds(p)), 5))), slices.Repeat(told("p | p | p | p | ~$true"), 5*4); !slices.Equal(got, want) {
		t.Errorf("P15.1: Factor of one literal five times: %q", got)
	}
	expectByWords(t, "each with each other one", c)
	expectByWords(t, "one literal five times", slices.Repeat(of(holds(p)), 5))
}

func TestWithout(t *testing.T) {
	for _, k := range []struct {
		src  string
		i    int
		want string
	}{
		{"$false", 0, "$false"},
		{"$false", -1, "$false"},
		{"$false", 1, "$false"},
		{"p", 0, "$false"},
		{"p", -1, "p"},
		{"p", 1, "p"},
		{"~p | r(X) | a != Y", 0, "r(X0) | a != X1"},
		{"~p | r(X) | a != Y", 1, "~p | a != X1"},
		{"~p | r(X) | a != Y", 2, "~p | r(X0)"},
		{"~p | r(X) | a != Y", 3, "~p | r(X0) | a != X1"},
		{"~p | r(X) | a != Y", 4, "~p | r(X0) | a != X1"},
		{"~p | r(X) | a != Y", -1, "~p | r(X0) | a != X1"},
		{"~p | r(X) | a != Y", math.MinInt, "~p | r(X0) | a != X1"},
		{"~p | r(X) | a != Y", math.MaxInt, "~p | r(X0) | a != X1"},
		{"p | p", 0, "p"},
		{"p | p | p", 1, "p | p"},
		{"a = g(X) | X != X | b = a", 2, "a = g(X0) | X0 != X0"},
		{"r(X) | g(Y) = X | r(Z)", 0, "g(X1) = X0 | r(X2)"},
	} {
		expectWithout(t, "known", read(t, k.src), k.i, k.want)
	}
	for _, c := range []api.Clause{nil, {}, make(api.Clause, 0, 3)} {
		for _, i := range append(beyond(c), 0) {
			if got := Without(c, i); len(got) != 0 {
				t.Errorf("P15.1: Without(%v, %d) = %v", c, i, got)
			}
		}
	}
}

// TestVariablesWithParts: what lies in them is neither unified nor told, and
// nothing is put into it.
func TestVariablesWithParts(t *testing.T) {
	for _, k := range []struct {
		name        string
		c           api.Clause
		res, factor []string
	}{
		{"the same but for parts", of(unlike(loaded(0), x(0)), holds(r(loaded(0)))), told("r(X0)"), nil},
		{"one amid its own parts", of(unlike(loaded(0), g(loaded(1))), holds(r(loaded(0)))), told("r(g(X1))"), nil},
		{"one within the other side", of(unlike(loaded(0), g(loaded(0))), holds(p)), nil, nil},
		{"within symbols", of(unlike(f(loaded(1), loaded(2)), f(a, loaded(1))), alike(loaded(2), loaded(0))), told("a = X0"), nil},
		{"bound to a symbol of its parts", of(unlike(loaded(3), a), alike(loaded(3), b)), told("a = b"), nil},
		{"of weight 1", of(unlike(loaded(0), a), unlike(g(x(0)), b), holds(p)), nil, nil},
		{"sides of factors", of(holds(r(loaded(0))), holds(r(a))), nil, twice("r(a) | ~$true")},
		{"sides that are the same", of(alike(loaded(0), x(0)), alike(a, a)), nil, nil},
		{"a side that isn't taken", of(alike(g(a), loaded(4)), alike(g(a), a)), nil, told("g(a) = a | X4 != a", "g(a) = X4 | a != X4", "g(a) = g(a) | a != g(a)")},
	} {
		if got := texts(resByWords(k.c)); !slices.Equal(got, k.res) {
			t.Errorf("%s: by the words Res is %q", k.name, got)
		}
		if got := texts(factorsByWords(k.c)); !slices.Equal(got, k.factor) {
			t.Errorf("%s: by the words Factor is %q", k.name, got)
		}
		expectByWords(t, k.name, k.c)
	}
}

// TestVariablesWithinThemselves: what has no end is not gone through.
func TestVariablesWithinThemselves(t *testing.T) {
	y, z := endless(0), endless(1)
	if got := texts(Res(of(unlike(y, g(z)), holds(r(y)), holds(r(z))))); !slices.Equal(got, told("r(g(X1)) | r(X1)")) {
		t.Errorf("P15.1: Res = %q", got)
	}
	if got := texts(Factor(of(holds(r(y)), holds(r(g(z)))))); !slices.Equal(got, twice("r(g(X1)) | ~$true")) {
		t.Errorf("P15.1: Factor = %q", got)
	}
	if got := text(Without(of(holds(r(y)), alike(z, y)), 0)); got != "X1 = X0" {
		t.Errorf("P15.1: Without = %s", got)
	}
}

// TestStrangeSymbols has symbols with several numbers of parts, and $true with
// parts: a symbol has a unifier only with one of as many parts.
func TestStrangeSymbols(t *testing.T) {
	for _, c := range []api.Clause{
		of(unlike(symbol(5, a), symbol(5, a, a)), holds(p)),
		of(unlike(symbol(5), symbol(5, x(0))), holds(p)),
		of(unlike(symbol(5), api.T{F: 5, L: []api.T{}}), holds(p)),
		of(unlike(symbol(0, x(0)), symbol(0, a)), holds(r(x(0)))),
		of(unlike(truth, symbol(0, a)), holds(p)),
		of(holds(truth), holds(truth)),
		of(alike(truth, p), alike(truth, p), alike(p, truth)),
		of(alike(symbol(0, x(0)), truth), alike(symbol(0, a), truth)),
		of(alike(symbol(5, x(0)), b), alike(symbol(5, x(0), x(1)), a), alike(symbol(5, a), x(2))),
		{{}, {}},
		{{Neg: true}, {}},
		{{Neg: true}, {Neg: true}},
	} {
		expectByWords(t, "strange", c)
	}
	if got := Res(api.Clause{{Neg: true}}); len(got) != 1 || len(got[0]) != 0 {
		t.Errorf("P15.1: Res of $true != $true: %v", got)
	}
	if got := Res(of(unlike(symbol(5, a), symbol(5, a, a)))); len(got) != 0 {
		t.Errorf("P15.1: Res of unlike numbers of parts: %v", got)
	}
}

// TestRoomBehindLists hands in lists with room behind them in which something
// lies: it is neither asked nor changed.
func TestRoomBehindLists(t *testing.T) {
	many := of(holds(p), holds(p), alike(x(0), a), unlike(x(1), x(0)), holds(r(x(0))), holds(r(x(1))), unlike(g(x(0)), x(1)), fails(q))
	for n := range many {
		for m := range n {
			expectByWords(t, "with room", many[m:n])
			expectByWords(t, "without room", many[m:n:n])
		}
	}
	parts := []api.T{x(0), a, g(x(1)), x(2), b}
	for n := range parts {
		for _, l := range of(unlike(symbol(5, parts[:n]...), symbol(5, parts[n:]...)), unlike(symbol(5, parts[1:3]...), symbol(5, parts[:2]...))) {
			expectByWords(t, "parts with room", of(l, holds(symbol(8, parts[:n]...))))
			expectByWords(t, "parts with room", of(alike(l.A, l.B), holds(symbol(8, parts[:n]...)), holds(symbol(8, parts[:n]...))))
		}
	}
}

// TestNothingIsKept asks the same things again, behind others and behind what
// was done to what they told.
func TestNothingIsKept(t *testing.T) {
	c, d := read(t, "r(X) | X != g(Y) | p"), read(t, "X = Y | X = a")
	res, factors := texts(Res(c)), texts(Factor(d))
	for n := range 3 {
		expectByWords(t, "again", c)
		expectByWords(t, "again", d)
		expectRes(t, "again", c, res)
		expectFactors(t, "again", d, factors)
		spoil(append(Res(c), Without(d, n)))
		spoil(append(Factor(d), Without(c, n)))
	}
}

func TestNumbersAtTheirEnds(t *testing.T) {
	ends := []int{math.MinInt, math.MinInt + 1, -1 - 1<<30, -2, -1, 0, 1, 1<<31 - 1, math.MaxInt - 1, math.MaxInt}
	for _, k := range ends {
		for _, l := range ends {
			for _, m := range ends {
				s, u, v := api.T{F: k}, api.T{F: l, L: []api.T{{F: m}}}, api.T{F: m, L: []api.T{{F: k}, {F: l}}}
				name := strconv.Itoa(k) + " " + strconv.Itoa(l) + " " + strconv.Itoa(m)
				expectByWords(t, name, of(alike(s, u), unlike(u, v), alike(v, s)))
				expectByWords(t, name, of(alike(s, u), alike(u, v), alike(v, s)))
			}
		}
	}
}

func chain(depth int, end api.T) api.T {
	for range depth {
		end = g(end)
	}
	return end
}

// TestDeepTerms goes to the bound on parts nested in one another.
func TestDeepTerms(t *testing.T) {
	const depth = 1 << 16
	deep, other := chain(depth, x(0)), chain(depth, x(1))
	if got := texts(Res(of(unlike(deep, other), holds(r(x(1)))))); !slices.Equal(got, told("r(X0)")) {
		t.Errorf("P15.1: Res of deep terms: %q", got)
	}
	if got := Res(of(unlike(deep, chain(depth-1, x(0))), holds(p))); len(got) != 0 {
		t.Errorf("P15.1: Res of deep terms, one within the other: %d", len(got))
	}
	if got := Factor(of(alike(deep, a), alike(other, b))); len(got) != 2 || text(got[0][1:]) != "a != b" || text(got[1][1:]) != "b != a" {
		t.Errorf("P15.1: Factor of deep terms: %d", len(got))
	}
	if got := text(Without(of(holds(deep), holds(p)), 0)); got != "p" {
		t.Errorf("P15.1: Without of deep terms: %s", got)
	}
}

// TestLongClauses has clauses that are longer than those of a source.
func TestLongClauses(t *testing.T) {
	const many = 1000
	var neg, apart api.Clause
	for n := range many {
		neg = append(neg, unlike(x(n), a), holds(r(x(n))))
		apart = append(apart, holds(symbol(9+n)))
	}
	res := Res(append(neg, unlike(x(many-1), g(x(many)))))
	if len(res) != 1 || len(res[0]) != 2*many || text(res[0][2*many-2:]) != "g(X1000) != a | r(g(X1000))" {
		t.Errorf("P15.1: Res of a long clause: %d", len(res))
	}
	if got := Factor(apart); len(got) != 0 {
		t.Errorf("P15.1: Factor of a long clause: %d", len(got))
	}
	if got := Without(apart, many/2); len(got) != many-1 || text(got[many/2-1:many/2+1]) != "s508 | s510" {
		t.Errorf("P15.1: Without of a long clause: %d", len(got))
	}
	all := slices.Repeat(of(holds(r(a)), holds(r(x(0))), holds(r(x(1)))), 20)
	if got, want := texts(Factor(all)), texts(factorsByWords(all)); !slices.Equal(got, want) {
		t.Errorf("P15.1: Factor of literals that stand often: %d, want %d", len(got), len(want))
	}
}
