package print

import (
	"fmt"
	"math/rand/v2"
	"reflect"
	"slices"
	"strconv"
	"strings"
	"testing"

	"sorites/api"
	"sorites/parse"
)

// numberless tells clauses without the numbers of symbols and variables: symbols
// by their names, variables as they first stand in their clause.
func numberless(sig api.Sig, list []api.Clause) string {
	var text strings.Builder
	for _, c := range list {
		var seen []int
		for _, l := range c {
			fmt.Fprint(&text, l.Neg, ": ")
			addNumberless(&text, &seen, sig, l.A)
			addNumberless(&text, &seen, sig, l.B)
		}
		text.WriteString("; ")
	}
	return text.String()
}

func addNumberless(text *strings.Builder, seen *[]int, sig api.Sig, t api.T) {
	if t.F < 0 {
		if !slices.Contains(*seen, t.F) {
			*seen = append(*seen, t.F)
		}
		fmt.Fprintf(text, "<%d> ", slices.Index(*seen, t.F))
		return
	}
	fmt.Fprintf(text, "%s/%d ", sig.Names[t.F], len(t.L))
	for _, part := range t.L {
		addNumberless(text, seen, sig, part)
	}
}

func addSymbols(all *[]int, t api.T) {
	if t.F > 0 && !slices.Contains(*all, t.F) {
		*all = append(*all, t.F)
	}
	for _, part := range t.L {
		addSymbols(all, part)
	}
}

// firstStanding has sig's symbols as they first stand in clauses, behind $true.
func firstStanding(sig api.Sig, list []api.Clause) api.Sig {
	var all []int
	for _, l := range slices.Concat(list...) {
		addSymbols(&all, l.A)
		addSymbols(&all, l.B)
	}
	first := parse.Start()
	for _, f := range all {
		first.Names = append(first.Names, sig.Names[f])
		first.Arity = append(first.Arity, sig.Arity[f])
		first.Pred = append(first.Pred, sig.Pred[f])
	}
	return first
}

// expectBack holds that clauses are parsed of their text as they were, but for
// the numbers, which are as they first stand.
func expectBack(t *testing.T, sig api.Sig, list []api.Clause) {
	t.Helper()
	text := All(sig, list)
	if len(text) > api.MaxSource {
		return
	}
	again, back, err := parse.Parse(text)
	if err != api.OK || numberless(again, back) != numberless(sig, list) {
		t.Fatalf("P13.2: of %.500q is parsed %.500s (%d), want %.500s", text, numberless(again, back), err, numberless(sig, list))
	}
	if first := firstStanding(sig, list); !reflect.DeepEqual(again, first) {
		t.Fatalf("P13.2: of %.500q are parsed the symbols %v, want %v", text, again, first)
	}
}

// expectVery holds that a text is parsed as these clauses, to the very numbers.
func expectVery(t *testing.T, text string, sig api.Sig, list []api.Clause) {
	t.Helper()
	if len(text) > api.MaxSource {
		return
	}
	again, back, err := parse.Parse(text)
	if err != api.OK || !reflect.DeepEqual(again, sig) || !reflect.DeepEqual(back, list) {
		t.Fatalf("P13.2: of %.500q is parsed %v, %v, %d, want %v, %v", text, again, back, err, sig, list)
	}
	if twice := All(again, back); twice != All(sig, list) {
		t.Fatalf("P13.2: %.500q is printed anew as %.500q", text, twice)
	}
}

// byLiterals is a source of the texts of literals, and, where a literal is no
// atom, of its sides.
func byLiterals(sig api.Sig, list []api.Clause) string {
	var src strings.Builder
	for _, c := range list {
		if len(c) == 0 {
			src.WriteString(Clause(sig, c))
		}
		for n, l := range c {
			if n > 0 {
				src.WriteString("|")
			}
			switch {
			case l.B.F == 0:
				src.WriteString(Lit(sig, l))
			case l.Neg:
				src.WriteString("~" + Term(sig, l.A) + "=" + Term(sig, l.B))
			default:
				src.WriteString("~" + Term(sig, l.A) + "!=" + Term(sig, l.B))
			}
		}
		src.WriteString(".")
	}
	return src.String()
}

func byClauses(sig api.Sig, list []api.Clause) string {
	var src strings.Builder
	for _, c := range list {
		src.WriteString(Clause(sig, c) + ".")
	}
	return src.String()
}

// expectSource holds that a source is parsed of its text as it was, and tells
// the text. As a source's numbers are as they first stand, they come back too.
func expectSource(t *testing.T, src string) string {
	t.Helper()
	sig, list, err := parse.Parse(src)
	if err != api.OK {
		t.Fatalf("%.500q is not parsed: %d", src, err)
	}
	text := All(sig, list)
	expectVery(t, text, sig, list)
	expectVery(t, byClauses(sig, list), sig, list)
	expectVery(t, byLiterals(sig, list), sig, list)
	expectBack(t, sig, list)
	return text
}

// known sources have their texts beside them.
type known struct{ src, text string }

func ordinary() []known {
	return []known{
		{"", ""},
		{" % nothing\n", ""},
		{"$false.", "$false.\n"},
		{"$false.$false. $false .", "$false.\n$false.\n$false.\n"},
		{"p.", "p.\n"},
		{"~p.", "~p.\n"},
		{"p(X) | ~q.", "p(X0) | ~q.\n"},
		{"a=b.", "a = b.\n"},
		{"a!=b.", "a != b.\n"},
		{"~a=b.", "a != b.\n"},
		{"~a!=b.", "a = b.\n"},
		{"f(X)!=c.", "f(X0) != c.\n"},
		{"f(X) = X. p(f(a)). ~p(a).", "f(X0) = X0.\np(f(a)).\n~p(a).\n"},
		{"p(a) | q. ~p(X).", "p(a) | q.\n~p(X0).\n"},
		{"p(X,f(Y))|~X=Y|~q.$false.~f(a)!=X.", "p(X0,f(X1)) | X0 != X1 | ~q.\n$false.\nf(a) = X0.\n"},
		{"X=X|X!=X|~X=X|~X!=X.", "X0 = X0 | X0 != X0 | X0 != X0 | X0 = X0.\n"},
		{"p | p | ~p.p.", "p | p | ~p.\np.\n"},
		// Names that first stand in another order than that of their letters or
		// of the numbers in them.
		{"z = y. y = x. x = z. w(z, y).", "z = y.\ny = x.\nx = z.\nw(z,y).\n"},
		{"p(Z, Y, X) | q(X, Y, Z). q(Y, Z, Y).", "p(X0,X1,X2) | q(X2,X1,X0).\nq(X0,X1,X0).\n"},
		{"p(X3, X0, X1) | X1 = X2. X9 = X8.", "p(X0,X1,X2) | X2 = X3.\nX0 = X1.\n"},
		{"s9(s0) = s1 | s2. ~s2.", "s9(s0) = s1 | s2.\n~s2.\n"},
		{"x0(X0) = x1 | x2(X1).", "x0(X0) = x1 | x2(X1).\n"},
		{"aA_9(Bb_8,cC) | false | true.", "aA_9(X0,cC) | false | true.\n"},
		{"mul(X, inv(X)) = one.\n% it has an inverse\nmul(inv(X), X) = one.", "mul(X0,inv(X0)) = one.\nmul(inv(X0),X0) = one.\n"},
	}
}

func TestKnownSources(t *testing.T) {
	for _, k := range ordinary() {
		if text := expectSource(t, k.src); text != k.text {
			t.Errorf("P13.1: the text of %q is %q, want %q", k.src, text, k.text)
		}
	}
}

// numbered are names with numbers, the greatest first.
func numbered(begin string, count int) []string {
	var list []string
	for n := range count {
		list = append(list, begin+strconv.Itoa(count-1-n))
	}
	return list
}

// TestSourcesAtTheirEnds: as many clauses, symbols and variables, and as great
// ones, as a source may have.
func TestSourcesAtTheirEnds(t *testing.T) {
	expectSource(t, strings.Repeat("p(X,a)|~q.", 64))
	expectSource(t, strings.Repeat("$false.", 64))
	expectSource(t, strings.Repeat("f(", 31)+"X"+strings.Repeat(")", 31)+"=a.")
	expectSource(t, "p("+strings.Repeat("f(", 30)+"a"+strings.Repeat(")", 30)+").")
	expectSource(t, strings.Repeat("p|~q|", 14)+"~p|p.")
	variables := strings.Join(numbered("X", 58), ",")
	expectSource(t, "p("+variables+").~p("+variables+").")
	var symbols strings.Builder
	for names := range slices.Chunk(numbered("s", 200), 20) {
		symbols.WriteString(strings.Join(names, "|") + ".")
	}
	expectSource(t, symbols.String())
	name := "p" + strings.Repeat("q", api.MaxSource-3)
	if text := expectSource(t, name+"."); text != name+".\n" {
		t.Errorf("P13.1: the text of a long name has %d bytes", len(text))
	}
}

// TestTextsTooLongForASource: P13.1 says what a text is, though it may have more
// bytes than what it was parsed of, and than a source may have.
func TestTextsTooLongForASource(t *testing.T) {
	name := "p" + strings.Repeat("q", api.MaxSource-5)
	sig, list, err := parse.Parse(name + "(X).")
	text := All(sig, list)
	if err != api.OK || text != name+"(X0).\n" {
		t.Errorf("P13.1: %d, %d bytes, want %d", err, len(text), api.MaxSource+2)
	}
	if _, _, err = parse.Parse(text); err != api.Large {
		t.Errorf("P12.1: a text of %d bytes: %d", len(text), err)
	}
}

// changed has the same clauses, or some of them, with clauses, literals and sides
// in another order, and with other numbers of symbols and variables.
func changed(m maker, sig api.Sig, list []api.Clause) (api.Sig, []api.Clause) {
	symbols := m.Perm(len(sig.Names) - 1)
	other := copiedSig(sig)
	for from, to := range symbols {
		other.Names[1+to], other.Arity[1+to], other.Pred[1+to] = sig.Names[1+from], sig.Arity[1+from], sig.Pred[1+from]
	}
	all := copiedClauses(list)
	m.Shuffle(len(all), func(i, j int) { all[i], all[j] = all[j], all[i] })
	all = all[m.IntN(len(all)+1)/3:]
	for _, c := range all {
		m.Shuffle(len(c), func(i, j int) { c[i], c[j] = c[j], c[i] })
		variables := m.Perm(api.MaxWeight)
		for n, l := range c {
			if l.B.F != 0 && m.IntN(2) == 0 {
				l.A, l.B = l.B, l.A
			}
			c[n] = api.Lit{Neg: l.Neg, A: renumbered(l.A, symbols, variables), B: renumbered(l.B, symbols, variables)}
		}
	}
	return other, all
}

func renumbered(t api.T, symbols, variables []int) api.T {
	u := api.T{F: t.F}
	if t.F < 0 {
		// Far apart, so that none is a number of a source's.
		u.F = -1 - 1000*variables[-1-t.F]
	}
	if t.F > 0 {
		u.F = 1 + symbols[t.F-1]
	}
	for _, part := range t.L {
		u.L = append(u.L, renumbered(part, symbols, variables))
	}
	return u
}

// nameless has names for the first so many symbols alone; named has for the
// others the names that they are told by.
func nameless(sig api.Sig, count int) (less, named api.Sig) {
	less, named = copiedSig(sig), copiedSig(sig)
	for n := count; n < len(named.Names); n++ {
		named.Names[n] = "s" + strconv.Itoa(n)
	}
	less.Names = less.Names[:count]
	return less, named
}

// expectChanged holds the way there and back of what a source became.
func expectChanged(t *testing.T, m maker, src string) {
	t.Helper()
	sig, list, err := parse.Parse(src)
	if err != api.OK {
		t.Fatalf("%.500q is not parsed: %d", src, err)
	}
	for range 4 {
		sig, list := changed(m, sig, list)
		expectBack(t, sig, list)
		less, named := nameless(sig, 1+m.IntN(len(sig.Names)))
		if slices.ContainsFunc(less.Names, func(name string) bool { return name[0] == 's' }) {
			continue // It may be the name that a symbol without one is told by.
		}
		expectText(t, "All", less, All(less, list), All(named, list))
		expectBack(t, named, list)
	}
}

func TestChangedClauses(t *testing.T) {
	m := maker{rand.New(rand.NewPCG(13, 2))}
	for _, k := range ordinary() {
		for range 20 {
			expectChanged(t, m, k.src)
		}
	}
}

// TestOtherNumbers: symbols and variables that first stand in another order than
// that of their numbers get new numbers.
func TestOtherNumbers(t *testing.T) {
	list := []api.Clause{{alike(f(x(7), x(3)), x(3)), fails(p(x(5)))}, nil, {unlike(c, a)}, {holds(q), alike(x(1), x(0))}}
	text := All(letters(), list)
	if want := "f(X7,X3) = X3 | ~p(X5).\n$false.\nc != a.\nq | X1 = X0.\n"; text != want {
		t.Fatalf("P13.1: All = %q, want %q", text, want)
	}
	sig, back, err := parse.Parse(text)
	want := []api.Clause{
		{alike(symbol(1, x(0), x(1)), x(1)), fails(symbol(2, x(2)))}, nil, {unlike(symbol(3), symbol(4))}, {holds(symbol(5)), alike(x(0), x(1))},
	}
	if names := strings.Join(sig.Names, " "); err != api.OK || names != "$true f p c a q" || allByWords(sig, back) != allByWords(sig, want) {
		t.Errorf("P13.2: of %q is parsed %v, %v, %d", text, sig, back, err)
	}
	expectBack(t, letters(), list)
}

func (m maker) pick(list ...string) string { return list[m.IntN(len(list))] }

func (m maker) termSource(depth int) string {
	if depth == 0 || m.IntN(3) == 0 {
		return m.pick("X", "Y", "Z", "X0", "X1", "X2", "a", "b", "c", "d")
	}
	switch m.IntN(3) {
	case 0:
		return "g(" + m.termSource(depth-1) + ")"
	case 1:
		return "f(" + m.termSource(depth-1) + "," + m.termSource(depth-1) + ")"
	}
	return "h(" + m.termSource(depth-1) + " , " + m.termSource(depth-1) + ", " + m.termSource(depth-1) + ")"
}

func (m maker) literalSource() string {
	begin := m.pick("", "", "~", "~ ")
	switch m.IntN(4) {
	case 0:
		return begin + m.pick("q", "r")
	case 1:
		return begin + m.pick("p", "o") + "(" + m.termSource(3) + ")"
	}
	return begin + m.termSource(2) + m.pick("=", "!=", " = ", " != ") + m.termSource(2)
}

func (m maker) source() string {
	var src strings.Builder
	for range m.IntN(8) {
		begin := m.pick("", " ", "\n", "% so\n")
		if m.IntN(8) == 0 {
			src.WriteString(begin + "$false.")
			continue
		}
		src.WriteString(begin + m.literalSource())
		for range m.IntN(4) {
			src.WriteString("|" + m.literalSource())
		}
		src.WriteString(".")
	}
	return src.String()
}

func TestSourcesByChance(t *testing.T) {
	m := maker{rand.New(rand.NewPCG(38, 13))}
	parsed := 0
	for range 4000 {
		src := m.source()
		if _, _, err := parse.Parse(src); err == api.OK {
			expectSource(t, src)
			expectChanged(t, m, src)
			parsed++
		}
	}
	if parsed < 2500 {
		t.Errorf("too few sources: %d", parsed)
	}
}

func FuzzSources(f *testing.F) {
	for n, k := range ordinary() {
		f.Add(k.src, uint64(n))
	}
	f.Fuzz(func(t *testing.T, src string, seed uint64) {
		if _, _, err := parse.Parse(src); err != api.OK {
			return
		}
		expectSource(t, src)
		expectChanged(t, maker{rand.New(rand.NewPCG(seed, 13))}, src)
	})
}
