package parse

import (
	"math/rand/v2"
	"regexp"
	"slices"
	"strings"
	"testing"
	"unicode"

	"sorites/api"
)

// What follows does the chapter's words step by step, by other means than the
// program: tokens are told by a pattern, and the innermost brackets are put
// together first.

// item is a token, or, if it is done, a term of what was put together.
type item struct {
	token string
	done  bool
	parts []item
}

func (i item) isTerm() bool { return unicode.IsLetter(rune(i.token[0])) }

func (i item) isVariable() bool { return unicode.IsUpper(rune(i.token[0])) }

func (i item) is(sign string) bool { return !i.done && i.token == sign }

var (
	tokenPattern = regexp.MustCompile(`^([a-z][a-zA-Z0-9_]*|[A-Z][a-zA-Z0-9_]*|\$false|[(),|~=]|!=|\.)`)
	blankPattern = regexp.MustCompile(`^([ \x09\x0a\x0d]|%[^\x0a]*)`)
)

func tokensByWords(src string) ([]item, bool) {
	var list []item
	for src != "" {
		if blank := blankPattern.FindString(src); blank != "" {
			src = src[len(blank):]
			continue
		}
		token := tokenPattern.FindString(src)
		if token == "" {
			return nil, false
		}
		list = append(list, item{token: token})
		src = src[len(token):]
	}
	return list, true
}

func split(list []item, sign string) [][]item {
	all := [][]item{nil}
	for _, i := range list {
		if i.is(sign) {
			all = append(all, nil)
		} else {
			all[len(all)-1] = append(all[len(all)-1], i)
		}
	}
	return all
}

// together puts each name and its brackets together, where a bracket is shut:
// it looks back for the last one that is open.
func together(tokens []item) ([]item, bool) {
	var list []item
	for _, i := range tokens {
		if !i.is(")") {
			list = append(list, i)
			continue
		}
		open := len(list) - 1
		for open >= 0 && !list[open].is("(") {
			open--
		}
		if open < 1 || list[open-1].done || !list[open-1].isTerm() || list[open-1].isVariable() {
			return nil, false
		}
		whole := item{token: list[open-1].token, done: true}
		for _, part := range split(list[open+1:], ",") {
			if len(part) != 1 || !part[0].isTerm() {
				return nil, false
			}
			whole.parts = append(whole.parts, part[0])
		}
		list = append(list[:open-1], whole)
	}
	return list, !slices.ContainsFunc(list, func(i item) bool { return i.is("(") || i.is(",") })
}

// row is a literal's items: a term, or a term, a sign and a term, behind what
// of ~ there is.
type row struct {
	tilde bool
	items []item
}

func (r row) atom() bool { return len(r.items) == 1 }

func rowByWords(list []item) (row, bool) {
	var r row
	if len(list) > 0 && list[0].is("~") {
		r.tilde, list = true, list[1:]
	}
	r.items = list
	switch len(list) {
	case 1:
		return r, list[0].isTerm() && !list[0].isVariable()
	case 3:
		return r, list[0].isTerm() && (list[1].is("=") || list[1].is("!=")) && list[2].isTerm()
	}
	return r, false
}

func rowsByWords(src string) ([][]row, bool) {
	list, ok := tokensByWords(src)
	if !ok {
		return nil, false
	}
	if list, ok = together(list); !ok {
		return nil, false
	}
	clauses := split(list, ".")
	if len(clauses[len(clauses)-1]) != 0 {
		return nil, false
	}
	var all [][]row
	for _, c := range clauses[:len(clauses)-1] {
		if len(c) == 1 && c[0].is("$false") {
			all = append(all, nil)
			continue
		}
		var rows []row
		for _, literal := range split(c, "|") {
			r, ok := rowByWords(literal)
			if !ok {
				return nil, false
			}
			rows = append(rows, r)
		}
		all = append(all, rows)
	}
	return all, true
}

// place is where a name stands.
type place struct {
	name  string
	parts int
	pred  bool
	depth int
}

func addPlaces(list *[]place, i item, pred bool, depth int) {
	*list = append(*list, place{i.token, len(i.parts), pred, depth})
	for _, part := range i.parts {
		addPlaces(list, part, false, depth+1)
	}
}

func placesOf(rows []row) []place {
	var all []place
	for _, r := range rows {
		for n, i := range r.items {
			if n != 1 {
				addPlaces(&all, i, r.atom(), 1)
			}
		}
	}
	return all
}

func isGreatName(p place) bool { return item{token: p.name}.isVariable() }

func namesOf(list []place, great bool) []string {
	var all []string
	for _, p := range list {
		if isGreatName(p) == great && !slices.Contains(all, p.name) {
			all = append(all, p.name)
		}
	}
	return all
}

func termByWords(i item, symbols, variables []string) api.T {
	if i.isVariable() {
		return api.T{F: -1 - slices.Index(variables, i.token)}
	}
	t := api.T{F: 1 + slices.Index(symbols, i.token)}
	for _, part := range i.parts {
		t.L = append(t.L, termByWords(part, symbols, variables))
	}
	return t
}

func clauseByWords(rows []row, symbols []string) api.Clause {
	variables := namesOf(placesOf(rows), true)
	var c api.Clause
	for _, r := range rows {
		l := api.Lit{Neg: r.tilde, A: termByWords(r.items[0], symbols, variables)}
		if !r.atom() {
			l.Neg = r.tilde != r.items[1].is("!=")
			l.B = termByWords(r.items[2], symbols, variables)
		}
		c = append(c, l)
	}
	return c
}

// oneKind: has each small name one kind, wherever it stands?
func oneKind(all []place) bool {
	first := map[string]place{}
	for _, p := range all {
		q, ok := first[p.name]
		if ok && !isGreatName(p) && (p.parts != q.parts || p.pred != q.pred) {
			return false
		}
		if !ok {
			first[p.name] = p
		}
	}
	return true
}

func weightByWords(rows []row) int {
	weight := len(placesOf(rows))
	for _, r := range rows {
		if r.atom() {
			weight++
		}
	}
	return weight
}

func parseByWords(src string) (api.Sig, []api.Clause, api.Err) {
	if len(src) > 32768 {
		return api.Sig{}, nil, api.Large
	}
	clauses, ok := rowsByWords(src)
	if !ok || len(clauses) > 64 || slices.ContainsFunc(clauses, func(rows []row) bool { return weightByWords(rows) > 60 }) {
		return api.Sig{}, nil, api.Form
	}
	all := placesOf(slices.Concat(clauses...))
	symbols := namesOf(all, false)
	if len(symbols) > 200 || !oneKind(all) || slices.ContainsFunc(all, func(p place) bool { return p.depth > 32 }) {
		return api.Sig{}, nil, api.Form
	}
	sig := api.Sig{Names: []string{"$true"}, Arity: []int{0}, Pred: []bool{true}}
	for _, name := range symbols {
		p := all[slices.IndexFunc(all, func(p place) bool { return p.name == name })]
		sig.Names = append(sig.Names, name)
		sig.Arity = append(sig.Arity, p.parts)
		sig.Pred = append(sig.Pred, p.pred)
	}
	var list []api.Clause
	for _, rows := range clauses {
		list = append(list, clauseByWords(rows, symbols))
	}
	return sig, list, api.OK
}

// expectByWords holds all that Parse tells of a source against the words, that
// it lies in new memory, and that what is parsed is right.
func expectByWords(t *testing.T, src string) api.Err {
	t.Helper()
	sig, list, err := Parse(src)
	wantSig, wantList, wantErr := parseByWords(src)
	if err != wantErr || sigText(sig) != sigText(wantSig) || clausesText(list) != clausesText(wantList) {
		t.Fatalf("P12.1: Parse(%.500q) = %.500s; %.500s; %d, want %.500s; %.500s; %d", src, sigText(sig), clausesText(list), err, sigText(wantSig), clausesText(wantList), wantErr)
	}
	expectNew(t, src, sig, list)
	for _, c := range list {
		if !Right(sig, c) {
			t.Fatalf("P12.3: of %.500q %s is not right", src, clauseText(c))
		}
	}
	return err
}

// everyRow goes through all rows of so many of the tokens.
func everyRow(tokens []string, length int, visit func(src string)) {
	if length == 0 {
		visit("")
		return
	}
	everyRow(tokens, length-1, func(src string) {
		for _, token := range tokens {
			visit(src + token)
		}
	})
}

// TestEveryShortRowOfTokens: just those of the grammar are taken.
func TestEveryShortRowOfTokens(t *testing.T) {
	taken := map[api.Err]int{}
	count := func(src string) { taken[expectByWords(t, src)]++ }
	for length := range 6 {
		everyRow([]string{"p ", "f ", "X ", "( ", ") ", ", ", "| ", "~ ", "= ", "!= ", ". ", "$false "}, length, count)
	}
	// Longer ones of fewer tokens, each the rest of a clause.
	for length := range 7 {
		everyRow([]string{"a", "X", "(", ")", ","}, length, func(src string) { count("p(" + src + ").") })
		everyRow([]string{"p", "X", "=", "|", "~"}, length, func(src string) { count(src + ".") })
		everyRow([]string{"p", "p(X)", "=", ".", "|"}, length, count)
	}
	for length := range 9 {
		everyRow([]string{"$false", ".", "p"}, length, count)
		everyRow([]string{"$", "false", "."}, length, count)
		everyRow([]string{"!", "=", "a", "."}, min(length, 6), count)
	}
	if taken[api.OK] < 500 || taken[api.Form] < 5000 || len(taken) != 2 {
		t.Errorf("too few sources of a kind: %v", taken)
	}
}

// TestEveryChange puts, in the place of each byte of known sources, others and
// none, and cuts the source there.
func TestEveryChange(t *testing.T) {
	for _, k := range ordinary() {
		for n := range len(k.src) {
			expectByWords(t, k.src[:n])
			expectByWords(t, k.src[n:])
			expectByWords(t, k.src[:n]+k.src[n+1:])
			for _, other := range []string{" ", "\n", "%", "(", ")", ",", "|", "~", "=", "!", ".", "$false", "a", "f", "p", "q", "X", "Z", "0", "_", "\x00", "\xff"} {
				expectByWords(t, k.src[:n]+other+k.src[n+1:])
				expectByWords(t, k.src[:n]+other+k.src[n:])
			}
		}
	}
}

// maker makes sources by chance, with a seed that is told.
type maker struct {
	*rand.Rand
	wild bool // names are of any kind, wherever they stand
}

func (m maker) pick(list ...string) string { return list[m.IntN(len(list))] }

func (m maker) blank() string {
	return m.pick("", "", "", " ", "\n", "\t", "\r", "%\n", "% p. X\n", " \n ")
}

func (m maker) term(depth int) string {
	if depth == 0 || m.IntN(3) == 0 {
		return m.blank() + m.pick("X", "Y", "Z", "X1", "Xx", "a", "b", "c", "aA", "a_1") + m.blank()
	}
	name := m.pick("f1", "g1", "f2", "h3")
	return m.blank() + name + m.blank() + "(" + m.terms(int(name[1]-'0'), depth-1) + ")" + m.blank()
}

func (m maker) terms(count, depth int) string {
	var list []string
	for range count {
		list = append(list, m.term(depth))
	}
	return strings.Join(list, ",")
}

func (m maker) atom() string {
	name := m.pick("p0", "q0", "p1", "q2", "r3")
	if m.wild && m.IntN(8) == 0 {
		name = m.pick("f1", "g2", "h3", "a0", "b1")
	}
	if name[1] == '0' {
		return name
	}
	return name + m.blank() + "(" + m.terms(int(name[1]-'0'), 3) + ")"
}

func (m maker) literal() string {
	begin := m.blank() + m.pick("", "~") + m.blank()
	if m.IntN(2) == 0 {
		return begin + m.atom() + m.blank()
	}
	side := m.term(3)
	if m.wild && m.IntN(8) == 0 {
		side = m.atom()
	}
	return begin + side + m.pick("=", "!=") + m.term(3)
}

func (m maker) source() string {
	var src strings.Builder
	for range m.IntN(8) {
		if m.IntN(10) == 0 {
			src.WriteString(m.blank() + "$false" + m.blank() + ".")
			continue
		}
		src.WriteString(m.literal())
		for range m.IntN(4) {
			src.WriteString("|" + m.literal())
		}
		src.WriteString(".")
	}
	return src.String() + m.pick("", " ", "\n", "%", "% p")
}

func TestSourcesByChance(t *testing.T) {
	m := maker{Rand: rand.New(rand.NewPCG(12, 35))}
	taken := map[api.Err]int{}
	for n := range 4000 {
		m.wild = n%2 == 1
		taken[expectByWords(t, m.source())]++
	}
	if taken[api.OK] < 1500 || taken[api.Form] < 500 {
		t.Errorf("too few sources of a kind: %v", taken)
	}
}

func FuzzParse(f *testing.F) {
	for _, k := range ordinary() {
		f.Add(k.src)
	}
	f.Add("% rest\n~p(a,Z)|f(Z)!=Z|~f(a)!=a.$false.")
	f.Add(chain(32, "a") + " = a.")
	f.Add(chain(33, "X") + " != X.")
	f.Add(strings.Repeat("p.", 65))
	f.Add(manySymbols(201, "p(", ").", 30))
	f.Add("\xffp. \x00")
	f.Fuzz(func(t *testing.T, src string) { expectByWords(t, src) })
}
