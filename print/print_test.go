package print

import (
	"fmt"
	"math"
	"math/rand/v2"
	"reflect"
	"slices"
	"strings"
	"testing"
	"unsafe"

	"sorites/api"
)

func symbol(f int, list ...api.T) api.T { return api.T{F: f, L: list} }

func x(n int) api.T { return api.T{F: -1 - n} }

// loaded is a variable with parts, which count for nothing.
func loaded(n int) api.T {
	return api.T{F: -1 - n, L: []api.T{symbol(1), x(0), symbol(7, x(1), x(5))}}
}

// endless is a variable within itself: who goes through its parts never ends.
func endless() api.T {
	t := api.T{F: -3, L: make([]api.T, 1)}
	t.L[0] = t
	return t
}

func alike(a, b api.T) api.Lit { return api.Lit{A: a, B: b} }

func unlike(a, b api.T) api.Lit { return api.Lit{Neg: true, A: a, B: b} }

func holds(a api.T) api.Lit { return api.Lit{A: a} }

func fails(a api.T) api.Lit { return api.Lit{Neg: true, A: a} }

// letters has the symbols $true, a, c, g (of one part), f (of two), p and q.
func letters() api.Sig {
	return api.Sig{
		Names: []string{"$true", "a", "c", "g", "f", "p", "q"},
		Arity: []int{0, 0, 0, 1, 2, 1, 0},
		Pred:  []bool{true, false, false, false, false, true, true},
	}
}

// The names of the symbols of letters.
var (
	a = symbol(1)
	c = symbol(2)
	q = symbol(6)
)

func g(t api.T) api.T { return symbol(3, t) }

func f(t, u api.T) api.T { return symbol(4, t, u) }

func p(t api.T) api.T { return symbol(5, t) }

// What follows goes by the chapter's words, each text put together of whole
// ones.

func termByWords(sig api.Sig, t api.T) string {
	if t.F < 0 {
		// In 64 bits without a sign -1 less F is all bits of F turned.
		return fmt.Sprintf("X%d", ^uint64(int64(t.F)))
	}
	name := fmt.Sprintf("s%d", t.F)
	for n, other := range sig.Names {
		if n == t.F {
			name = other
		}
	}
	var parts []string
	for _, part := range t.L {
		parts = append(parts, termByWords(sig, part))
	}
	if parts == nil {
		return name
	}
	return fmt.Sprintf("%s(%s)", name, strings.Join(parts, ","))
}

func litByWords(sig api.Sig, l api.Lit) string {
	left, right := termByWords(sig, l.A), termByWords(sig, l.B)
	atom := l.B.F == 0 && len(l.B.L) == 0
	switch {
	case atom && l.Neg:
		return "~" + left
	case atom:
		return left
	case l.Neg:
		return left + " != " + right
	}
	return left + " = " + right
}

func clauseByWords(sig api.Sig, c api.Clause) string {
	if len(c) == 0 {
		return "$false"
	}
	var list []string
	for _, l := range c {
		list = append(list, litByWords(sig, l))
	}
	return strings.Join(list, " | ")
}

func allByWords(sig api.Sig, list []api.Clause) string {
	var text string
	for _, c := range list {
		text += clauseByWords(sig, c) + ".\n"
	}
	return text
}

func copiedTerm(t api.T) api.T {
	list := slices.Clone(t.L)
	for n, part := range list {
		list[n] = copiedTerm(part)
	}
	return api.T{F: t.F, L: list}
}

func copiedClauses(list []api.Clause) []api.Clause {
	copies := slices.Clone(list)
	for n, c := range copies {
		copies[n] = slices.Clone(c)
		for m, l := range c {
			copies[n][m].A, copies[n][m].B = copiedTerm(l.A), copiedTerm(l.B)
		}
	}
	return copies
}

func copiedSig(sig api.Sig) api.Sig {
	return api.Sig{Names: slices.Clone(sig.Names), Arity: slices.Clone(sig.Arity), Pred: slices.Clone(sig.Pred)}
}

// within: does some of the one text lie in the other one's memory?
func within(text, other string) bool {
	if text == "" || other == "" {
		return false
	}
	at, from := uintptr(unsafe.Pointer(unsafe.StringData(text))), uintptr(unsafe.Pointer(unsafe.StringData(other)))
	return at < from+uintptr(len(other)) && from < at+uintptr(len(text))
}

// expectText holds a text that is told, and that it lies in no name's memory.
func expectText(t *testing.T, call string, sig api.Sig, got, want string) {
	t.Helper()
	if got != want {
		t.Fatalf("P13.1: %s = %.500q, want %.500q", call, got, want)
	}
	if slices.ContainsFunc(sig.Names, func(name string) bool { return within(got, name) }) {
		t.Fatalf("R4: the text %.500q of %s shares a name's memory", got, call)
	}
}

// expectTerm holds a term's text wherever the term stands.
func expectTerm(t *testing.T, sig api.Sig, u api.T, want string) {
	t.Helper()
	expectText(t, "Term", sig, Term(sig, u), want)
	expectText(t, "Lit", sig, Lit(sig, fails(u)), "~"+want)
	expectText(t, "Lit", sig, Lit(sig, alike(u, x(9))), want+" = X9")
	expectText(t, "Lit", sig, Lit(sig, unlike(x(9), symbol(1<<40, u))), "X9 != s1099511627776("+want+")")
}

// expectLit holds a literal's text wherever the literal stands.
func expectLit(t *testing.T, sig api.Sig, l api.Lit, want string) {
	t.Helper()
	expectText(t, "Lit", sig, Lit(sig, l), want)
	expectText(t, "Clause", sig, Clause(sig, api.Clause{l}), want)
	expectText(t, "Clause", sig, Clause(sig, api.Clause{l, unlike(x(1), x(0)), l}), want+" | X1 != X0 | "+want)
	expectText(t, "All", sig, All(sig, []api.Clause{{l}}), want+".\n")
}

// expectByWords holds all four calls against the words, at every term, literal
// and clause of a list, and that what is handed in stays as it is.
func expectByWords(t *testing.T, sig api.Sig, list []api.Clause) {
	t.Helper()
	sigWas, listWas := copiedSig(sig), copiedClauses(list)
	for _, c := range list {
		for _, l := range c {
			expectText(t, "Term", sig, Term(sig, l.A), termByWords(sig, l.A))
			expectText(t, "Term", sig, Term(sig, l.B), termByWords(sig, l.B))
			expectText(t, "Lit", sig, Lit(sig, l), litByWords(sig, l))
		}
		expectText(t, "Clause", sig, Clause(sig, c), clauseByWords(sig, c))
	}
	expectText(t, "All", sig, All(sig, list), allByWords(sig, list))
	if !reflect.DeepEqual(sig, sigWas) || !reflect.DeepEqual(list, listWas) {
		t.Fatalf("R4: %v became %v, or %v %v", sigWas, sig, listWas, list)
	}
}

func TestExample(t *testing.T) {
	expectLit(t, letters(), unlike(symbol(4, x(0)), c), "f(X0) != c")
}

func TestTerms(t *testing.T) {
	for _, k := range []struct {
		t    api.T
		want string
	}{
		{a, "a"},
		{api.T{F: 2, L: []api.T{}}, "c"},
		{g(a), "g(a)"},
		{g(x(0)), "g(X0)"},
		{f(a, c), "f(a,c)"},
		{f(c, a), "f(c,a)"},
		{symbol(4, a, x(0), c, x(1), a), "f(a,X0,c,X1,a)"},
		{g(g(g(a))), "g(g(g(a)))"},
		{f(g(x(2)), f(a, g(c))), "f(g(X2),f(a,g(c)))"},
		{f(f(f(a, a), a), f(a, f(a, a))), "f(f(f(a,a),a),f(a,f(a,a)))"},
		{p(q), "p(q)"},
		{symbol(0), "$true"},
		{symbol(0, a), "$true(a)"},
		{g(symbol(0)), "g($true)"},
		{api.T{}, "$true"},
		// As many parts as it has, whatever sig says.
		{symbol(1, a, a), "a(a,a)"},
		{symbol(4), "f"},
	} {
		expectTerm(t, letters(), k.t, k.want)
	}
}

func TestVariables(t *testing.T) {
	for n, want := range map[int]string{
		0: "X0", 1: "X1", 9: "X9", 10: "X10", 11: "X11", 99: "X99", 100: "X100", 1000000: "X1000000",
		1 << 31: "X2147483648", 1 << 32: "X4294967296",
		math.MaxInt - 1: "X9223372036854775806", math.MaxInt: "X9223372036854775807",
	} {
		expectTerm(t, letters(), x(n), want)
		expectTerm(t, api.Sig{}, x(n), want)
		expectTerm(t, letters(), loaded(n), want)
		expectTerm(t, letters(), f(loaded(n), g(x(n))), "f("+want+",g("+want+"))")
	}
	expectTerm(t, letters(), api.T{F: math.MinInt}, "X9223372036854775807")
	expectTerm(t, letters(), api.T{F: -1}, "X0")
	// No name is a variable's, be the list as long as it may.
	expectTerm(t, api.Sig{Names: []string{"X7", "X8"}}, x(0), "X0")
}

func TestVariablesWithParts(t *testing.T) {
	expectTerm(t, letters(), api.T{F: -1, L: []api.T{}}, "X0")
	expectTerm(t, letters(), api.T{F: -5, L: []api.T{a}}, "X4")
	expectTerm(t, letters(), api.T{F: -5, L: []api.T{a, c, x(1)}}, "X4")
	expectTerm(t, letters(), endless(), "X2")
	expectTerm(t, letters(), f(endless(), loaded(0)), "f(X2,X0)")
	expectLit(t, letters(), alike(loaded(0), endless()), "X0 = X2")
	expectLit(t, letters(), fails(endless()), "~X2")
}

func TestNames(t *testing.T) {
	const far = "s9223372036854775807"
	for _, k := range []struct {
		name string
		sig  api.Sig
		f    int
		want string
	}{
		{"the first name", letters(), 0, "$true"},
		{"the last name", letters(), 6, "q"},
		{"at the list's end", letters(), 7, "s7"},
		{"behind the list's end", letters(), 8, "s8"},
		{"far beyond it", letters(), 123456789, "s123456789"},
		{"as far as can be", letters(), math.MaxInt, far},
		{"no names, 0", api.Sig{}, 0, "s0"},
		{"no names, 1", api.Sig{}, 1, "s1"},
		{"no names, as far as can be", api.Sig{}, math.MaxInt, far},
		{"an empty list of names", api.Sig{Names: []string{}}, 0, "s0"},
		{"one name, 0", api.Sig{Names: []string{"b"}}, 0, "b"},
		{"one name, 1", api.Sig{Names: []string{"b"}}, 1, "s1"},
		{"names alone", api.Sig{Names: []string{"b", "d", "e"}}, 2, "e"},
		{"names alone, at the end", api.Sig{Names: []string{"b", "d", "e"}}, 3, "s3"},
		{"more names than numbers of parts", api.Sig{Names: []string{"b", "d"}, Arity: []int{0}, Pred: []bool{true, false}}, 1, "d"},
		{"more names than predicates", api.Sig{Names: []string{"b", "d"}, Arity: []int{0, 0}, Pred: []bool{true}}, 1, "d"},
		{"fewer names than the others", api.Sig{Names: []string{"b"}, Arity: []int{0, 1, 2}, Pred: []bool{true, false, true}}, 1, "s1"},
		{"fewer names, as many as the others", api.Sig{Names: []string{"b"}, Arity: []int{0, 1, 2}, Pred: []bool{true, false, true}}, 2, "s2"},
		{"no names, but the others", api.Sig{Arity: []int{0, 1}, Pred: []bool{true, false}}, 1, "s1"},
		{"a name that is in use", api.Sig{Names: []string{"b", "b"}}, 1, "b"},
		{"a name like those of no name", api.Sig{Names: []string{"s7"}}, 0, "s7"},
		{"a variable's name", api.Sig{Names: []string{"b", "X0"}}, 1, "X0"},
		{"a long name", api.Sig{Names: []string{strings.Repeat("ab", 1<<15)}}, 0, strings.Repeat("ab", 1<<15)},
		{"bytes of any kind", api.Sig{Names: []string{"\x00\xff %\n.(ä)\xc3"}}, 0, "\x00\xff %\n.(ä)\xc3"},
		{"a name without bytes", api.Sig{Names: []string{"b", "", "e"}}, 1, ""},
		{"a format of numbers", api.Sig{Names: []string{"%d%s"}}, 0, "%d%s"},
	} {
		t.Run(k.name, func(t *testing.T) {
			expectTerm(t, k.sig, symbol(k.f), k.want)
			expectTerm(t, k.sig, symbol(k.f, x(0)), k.want+"(X0)")
			expectTerm(t, k.sig, symbol(k.f, x(0), symbol(k.f, x(1)), symbol(k.f)), k.want+"(X0,"+k.want+"(X1),"+k.want+")")
		})
	}
}

// TestNamesBehindAList: what lies in a list's spare memory is no name of sig's.
func TestNamesBehindAList(t *testing.T) {
	sig := letters()
	sig.Names = sig.Names[:3]
	expectTerm(t, sig, g(symbol(2)), "s3(c)")
}

func TestLiterals(t *testing.T) {
	for _, k := range []struct {
		l    api.Lit
		want string
	}{
		{alike(a, c), "a = c"},
		{unlike(a, c), "a != c"},
		{alike(c, a), "c = a"},
		{alike(x(0), x(1)), "X0 = X1"},
		{unlike(x(1), x(0)), "X1 != X0"},
		{alike(x(0), x(0)), "X0 = X0"},
		{alike(f(x(0), a), g(x(0))), "f(X0,a) = g(X0)"},
		{unlike(g(g(a)), f(a, c)), "g(g(a)) != f(a,c)"},
		// B is the symbol 0 without parts.
		{holds(p(x(0))), "p(X0)"},
		{fails(p(x(0))), "~p(X0)"},
		{holds(q), "q"},
		{fails(q), "~q"},
		{alike(q, api.T{L: []api.T{}}), "q"},
		{unlike(q, api.T{L: []api.T{}}), "~q"},
		{alike(q, api.T{L: make([]api.T, 0, 3)}), "q"},
		{holds(x(4)), "X4"},
		{fails(x(4)), "~X4"},
		{holds(a), "a"},
		// B is the symbol 0 with parts.
		{alike(q, symbol(0, a)), "q = $true(a)"},
		{unlike(q, symbol(0, a)), "q != $true(a)"},
		{alike(q, symbol(0, symbol(0))), "q = $true($true)"},
		{unlike(x(0), symbol(0, x(0), a)), "X0 != $true(X0,a)"},
		// A is the symbol 0 without parts.
		{alike(symbol(0), a), "$true = a"},
		{unlike(symbol(0), a), "$true != a"},
		{alike(symbol(0), x(0)), "$true = X0"},
		{holds(symbol(0)), "$true"},
		{fails(symbol(0)), "~$true"},
		{api.Lit{}, "$true"},
		{alike(symbol(0), symbol(0, a)), "$true = $true(a)"},
		{alike(symbol(0, a), symbol(0)), "$true(a)"},
		// B is another symbol without parts, or the variable 0, with parts and without.
		{alike(q, a), "q = a"},
		{unlike(q, x(0)), "q != X0"},
		{unlike(q, loaded(0)), "q != X0"},
	} {
		expectLit(t, letters(), k.l, k.want)
		expectByWords(t, api.Sig{}, []api.Clause{{k.l}})
	}
	expectLit(t, api.Sig{}, alike(symbol(0), symbol(0, a)), "s0 = s0(s1)")
	expectLit(t, api.Sig{}, fails(symbol(0)), "~s0")
	// The symbol 0 makes an atom by its number, not by its name.
	expectLit(t, api.Sig{Names: []string{"b", "$true"}}, alike(symbol(1), symbol(1)), "$true = $true")
	expectLit(t, api.Sig{Names: []string{"b", "$true"}}, unlike(symbol(1), symbol(0)), "~$true")
}

func TestClauses(t *testing.T) {
	one, two, three := fails(p(x(0))), alike(g(x(0)), a), holds(q)
	for _, k := range []struct {
		c    api.Clause
		want string
	}{
		{nil, "$false"},
		{api.Clause{}, "$false"},
		{make(api.Clause, 0, 4), "$false"},
		{api.Clause{one}, "~p(X0)"},
		{api.Clause{two}, "g(X0) = a"},
		{api.Clause{three}, "q"},
		{api.Clause{one, two}, "~p(X0) | g(X0) = a"},
		{api.Clause{two, one}, "g(X0) = a | ~p(X0)"},
		{api.Clause{three, two, one}, "q | g(X0) = a | ~p(X0)"},
		{api.Clause{three, three, three, three}, "q | q | q | q"},
		{api.Clause{{}}, "$true"},
		{api.Clause{{}, {Neg: true}}, "$true | ~$true"},
	} {
		expectText(t, "Clause", letters(), Clause(letters(), k.c), k.want)
		expectText(t, "All", letters(), All(letters(), []api.Clause{k.c}), k.want+".\n")
		expectText(t, "All", letters(), All(letters(), []api.Clause{k.c, {three}, k.c}), k.want+".\nq.\n"+k.want+".\n")
		expectByWords(t, api.Sig{}, []api.Clause{k.c, k.c})
	}
	expectText(t, "Clause", api.Sig{}, Clause(api.Sig{}, nil), "$false")
}

func TestAll(t *testing.T) {
	for _, sig := range []api.Sig{{}, letters()} {
		expectText(t, "All", sig, All(sig, nil), "")
		expectText(t, "All", sig, All(sig, []api.Clause{}), "")
		expectText(t, "All", sig, All(sig, []api.Clause{nil}), "$false.\n")
		expectText(t, "All", sig, All(sig, []api.Clause{nil, {}, nil}), "$false.\n$false.\n$false.\n")
	}
	list := []api.Clause{{alike(f(x(0), x(1)), x(1))}, nil, {fails(p(a)), holds(q), unlike(x(3), c)}}
	expectText(t, "All", letters(), All(letters(), list), "f(X0,X1) = X1.\n$false.\n~p(a) | q | X3 != c.\n")
	expectText(t, "All", api.Sig{}, All(api.Sig{}, list), "s4(X0,X1) = X1.\n$false.\n~s5(s1) | s6 | X3 != s2.\n")
}

// TestGreatOnes: deep, wide and long ones are told, each piece once.
func TestGreatOnes(t *testing.T) {
	const deep, wide = 1 << 16, 1<<20 - 2
	chain := x(0)
	for range deep {
		chain = g(chain)
	}
	want := strings.Repeat("g(", deep) + "X0" + strings.Repeat(")", deep)
	expectText(t, "Term", letters(), Term(letters(), chain), want)
	expectText(t, "All", letters(), All(letters(), []api.Clause{{unlike(chain, chain)}}), want+" != "+want+".\n")
	row := symbol(4, slices.Repeat([]api.T{c}, wide)...)
	expectText(t, "Term", letters(), Term(letters(), row), "f("+strings.Repeat("c,", wide-1)+"c)")
	long := slices.Repeat(api.Clause{fails(q)}, 1<<17)
	expectText(t, "Clause", letters(), Clause(letters(), long), strings.Repeat("~q | ", 1<<17-1)+"~q")
	many := slices.Repeat([]api.Clause{{holds(q)}, nil}, 1<<17)
	expectText(t, "All", letters(), All(letters(), many), strings.Repeat("q.\n$false.\n", 1<<17))
}

// TestNothingIsKept: no call hangs on those ahead of it.
func TestNothingIsKept(t *testing.T) {
	expectTerm(t, letters(), g(a), "g(a)")
	sig := letters()
	for range 3 {
		sig.Names[3] += "x"
		expectTerm(t, sig, g(a), sig.Names[3]+"(a)")
		expectTerm(t, api.Sig{}, g(a), "s3(s1)")
		expectTerm(t, letters(), g(a), "g(a)")
	}
}

// everyTerm is each term of these heads, of so many parts at most, and so deep.
func everyTerm(heads []int, parts, depth int) []api.T {
	var all []api.T
	for _, f := range heads {
		rows := [][]api.T{nil}
		for range parts {
			if depth == 1 {
				break
			}
			for _, row := range slices.Clone(rows) {
				for _, t := range everyTerm(heads, parts, depth-1) {
					rows = append(rows, append(slices.Clone(row), t))
				}
			}
		}
		for _, row := range rows {
			all = append(all, api.T{F: f, L: row})
		}
	}
	return all
}

func TestEverySmallLiteral(t *testing.T) {
	terms := everyTerm([]int{-2, -1, 0, 1, 2}, 2, 2)
	sigs := []api.Sig{{}, {Names: []string{"$true"}}, {Names: []string{"$true", "f"}}, letters()}
	for _, sig := range sigs {
		for _, left := range terms {
			for _, right := range terms {
				expectText(t, "Lit", sig, Lit(sig, alike(left, right)), litByWords(sig, alike(left, right)))
				expectText(t, "Lit", sig, Lit(sig, unlike(left, right)), litByWords(sig, unlike(left, right)))
			}
		}
		for _, deep := range everyTerm([]int{-1, 0, 1}, 1, 5) {
			expectByWords(t, sig, []api.Clause{{alike(deep, a), fails(deep)}, {unlike(a, deep)}})
		}
	}
}

// maker makes what can be printed by chance, with a seed that is told.
type maker struct{ *rand.Rand }

func (m maker) head() int {
	switch m.IntN(12) {
	case 0:
		return 0
	case 1:
		return m.IntN(1 << 20)
	case 2:
		return -m.IntN(1 << 20)
	case 3:
		return int(m.Uint64())
	}
	return m.IntN(14) - 5
}

func (m maker) term(depth int) api.T {
	t := api.T{F: m.head()}
	for range m.IntN(4) {
		if depth > 1 {
			t.L = append(t.L, m.term(depth-1))
		}
	}
	return t
}

func (m maker) literal() api.Lit {
	l := api.Lit{Neg: m.IntN(2) == 0, A: m.term(5), B: m.term(5)}
	if m.IntN(2) == 0 {
		l.B = symbol(0)
	}
	return l
}

func (m maker) clauses() []api.Clause {
	var list []api.Clause
	for range m.IntN(5) {
		var c api.Clause
		for range m.IntN(5) {
			c = append(c, m.literal())
		}
		list = append(list, c)
	}
	return list
}

func (m maker) sig() api.Sig {
	sig := letters()
	sig.Names = append(sig.Names, "s9", "X0", "", "%d\xff")
	cut := func(length int) int { return m.IntN(length + 1) }
	return api.Sig{Names: sig.Names[:cut(len(sig.Names))], Arity: sig.Arity[:cut(len(sig.Arity))], Pred: sig.Pred[:cut(len(sig.Pred))]}
}

func TestByChance(t *testing.T) {
	m := maker{rand.New(rand.NewPCG(13, 38))}
	for range 3000 {
		expectByWords(t, m.sig(), m.clauses())
	}
}
