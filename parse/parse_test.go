package parse

import (
	"slices"
	"strconv"
	"strings"
	"testing"
	"unsafe"

	"sorites/api"
)

func termText(t api.T) string {
	if t.F < 0 {
		return "x" + strconv.Itoa(-1-t.F)
	}
	if len(t.L) == 0 {
		return strconv.Itoa(t.F)
	}
	var parts []string
	for _, part := range t.L {
		parts = append(parts, termText(part))
	}
	return strconv.Itoa(t.F) + "(" + strings.Join(parts, ",") + ")"
}

func litText(l api.Lit) string {
	if l.Neg {
		return termText(l.A) + "!=" + termText(l.B)
	}
	return termText(l.A) + "=" + termText(l.B)
}

// clauseText tells symbols by their numbers.
func clauseText(c api.Clause) string {
	var list []string
	for _, l := range c {
		list = append(list, litText(l))
	}
	return strings.Join(list, " | ")
}

// clausesText ends each clause, so that an empty one is seen.
func clausesText(list []api.Clause) string {
	var all string
	for _, c := range list {
		all += clauseText(c) + ". "
	}
	return strings.TrimSuffix(all, " ")
}

// sigText has each symbol's name and number of parts, and a star behind a
// predicate's.
func sigText(sig api.Sig) string {
	if len(sig.Arity) != len(sig.Names) || len(sig.Pred) != len(sig.Names) {
		return "lists of unlike lengths"
	}
	var list []string
	for n, name := range sig.Names {
		text := name + "/" + strconv.Itoa(sig.Arity[n])
		if sig.Pred[n] {
			text += "*"
		}
		list = append(list, text)
	}
	return strings.Join(list, " ")
}

// pieces counts how often each piece of memory is told, with what a list has to
// spare.
type pieces map[any]int

func addList[I any](p pieces, list []I) {
	whole := list[:cap(list)]
	for n := range whole {
		p[&whole[n]]++
	}
}

func (p pieces) addTerm(t api.T) {
	addList(p, t.L)
	for _, part := range t.L {
		p.addTerm(part)
	}
}

func (p pieces) addSig(sig api.Sig) {
	addList(p, sig.Names)
	addList(p, sig.Arity)
	addList(p, sig.Pred)
}

func (p pieces) addClauses(list []api.Clause) {
	addList(p, list)
	for _, c := range list {
		addList(p, c)
		for _, l := range c {
			p.addTerm(l.A)
			p.addTerm(l.B)
		}
	}
}

func within(text, src string) bool {
	at, from := uintptr(unsafe.Pointer(unsafe.StringData(text))), uintptr(unsafe.Pointer(unsafe.StringData(src)))
	return len(text) > 0 && from <= at && at < from+uintptr(len(src))
}

// expectNew holds that no two lists of what is told share memory, and that no
// name lies in the source's.
func expectNew(t *testing.T, src string, sig api.Sig, list []api.Clause) {
	t.Helper()
	all := pieces{}
	all.addSig(sig)
	all.addClauses(list)
	for _, count := range all {
		if count > 1 {
			t.Fatalf("R4: what Parse(%.200q) tells shares memory", src)
		}
	}
	if slices.ContainsFunc(sig.Names, func(name string) bool { return within(name, src) }) {
		t.Fatalf("R4: a name that Parse(%.200q) tells shares the source's memory", src)
	}
}

// expectError holds that nothing is told beside the error.
func expectError(t *testing.T, src string, want api.Err) {
	t.Helper()
	sig, list, err := Parse(src)
	if err != want || len(sig.Names)+len(sig.Arity)+len(sig.Pred) > 0 || len(list) > 0 {
		t.Errorf("P12.1: Parse(%.200q) = %.200s; %.200s; %d, want nothing and %d", src, sigText(sig), clausesText(list), err, want)
	}
	expectByWords(t, src)
}

func expectForm(t *testing.T, sources ...string) {
	t.Helper()
	for _, src := range sources {
		expectError(t, src, api.Form)
	}
}

// expectParsed leaves out $true, which is always the first symbol.
func expectParsed(t *testing.T, src, symbols, clauses string) {
	t.Helper()
	sig, list, err := Parse(src)
	want := strings.TrimSpace("$true/0* " + symbols)
	if err != api.OK || sigText(sig) != want || clausesText(list) != clauses {
		t.Errorf("P12.1: Parse(%.200q) = %.200s; %.200s; %d, want %.200s; %.200s", src, sigText(sig), clausesText(list), err, want, clauses)
	}
	expectByWords(t, src)
}

func expectOK(t *testing.T, sources ...string) {
	t.Helper()
	for _, src := range sources {
		if _, _, err := Parse(src); err != api.OK {
			t.Errorf("P12.1: Parse(%.200q): %d", src, err)
		}
		expectByWords(t, src)
	}
}

// known sources are among those that are changed in all ways.
type known struct{ src, symbols, clauses string }

func ordinary() []known {
	return []known{
		{"p(X) | ~q.", "p/1* q/0*", "1(x0)=0 | 2!=0."},
		{"f(X) = X. p(f(a)). ~p(a).", "f/1 p/1* a/0", "1(x0)=x0. 2(1(3))=0. 2(3)!=0."},
		{"p(a) | q. ~p(X).", "p/1* a/0 q/0*", "1(2)=0 | 3=0. 1(x0)!=0."},
		{"p.", "p/0*", "1=0."},
		{"X = Y.", "", "x0=x1."},
		{"X = X | Y = X.", "", "x0=x0 | x1=x0."},
		{"a = b.", "a/0 b/0", "1=2."},
		{"b = a.", "b/0 a/0", "1=2."},
		{"f(g(X, h(Y, a)), Y) = g(Z, X).", "f/2 g/2 h/2 a/0", "1(2(x0,3(x1,4)),x1)=2(x2,x0)."},
		{"mul(X, inv(X)) = one.\n% it has an inverse\nmul(inv(X), X) = one.", "mul/2 inv/1 one/0", "1(x0,2(x0))=3. 1(2(x0),x0)=3."},
		{"p(a, b, c, d, e).", "p/5* a/0 b/0 c/0 d/0 e/0", "1(2,3,4,5,6)=0."},
		{"p | p | ~p.", "p/0*", "1=0 | 1=0 | 1!=0."},
		{"a != a.", "a/0", "1!=1."},
	}
}

func TestOrdinarySources(t *testing.T) {
	for _, k := range ordinary() {
		expectParsed(t, k.src, k.symbols, k.clauses)
	}
}

func TestSourcesWithoutClauses(t *testing.T) {
	for _, src := range []string{
		"", " ", "\t", "\n", "\r", " \t\r\n \n\t", "%", "%%", "% p.", "% p.\n", " % p.\n\t% q.\r\n", "%\n%\n%", "%\x00\xff!$@\n", "\n\n\n%p.",
	} {
		expectParsed(t, src, "", "")
	}
}

func TestStart(t *testing.T) {
	if got := sigText(Start()); got != "$true/0*" {
		t.Errorf("P12.1: Start() = %s", got)
	}
	sig, _, _ := Parse("")
	if sigText(sig) != sigText(Start()) {
		t.Errorf("P12.1: Start() is not the symbols of an empty source: %v", sig)
	}
	one := Start()
	one.Names[0], one.Arity[0], one.Pred[0] = "p", 7, false
	all := pieces{}
	all.addSig(one)
	all.addSig(Start())
	for _, count := range all {
		if count > 1 {
			t.Error("R4: Start() shares memory")
		}
	}
	if got := sigText(Start()); got != "$true/0*" {
		t.Errorf("R6: Start() behind a change of what it told = %s", got)
	}
	if got, _, _ := Parse("p."); sigText(got) != "$true/0* p/0*" {
		t.Errorf("R6: Parse behind a change of what Start() told: %v", got)
	}
}

func TestBlanksAndRemarks(t *testing.T) {
	for _, src := range []string{
		"p(X)|~q.",
		" p ( X ) | ~ q . ",
		"\tp\n(\rX\n\r)\t|\n~\rq\t.\n",
		"p%\n(%(\nX%Y\n)%)\n|%|\n~%~\nq%.\n.%",
		"%p.\np(X)%p.\n|~q.%p.",
		"p(X) | ~q. % a remark that ends with the source",
		"p(X) | ~q. %",
		"p(X) % byte 13 ends no remark:\r | r \n | ~q.",
		"p(X) %% $false. \x00\x01\x7f\x80\xff ä $ ! & @ 1 _ \n | ~q.",
		"p(X) %\n\n%\n%\n | ~q.\n%\n",
	} {
		expectParsed(t, src, "p/1* q/0*", "1(x0)=0 | 2!=0.")
	}
	expectForm(t, "p%.", "p(X) | % ~q.", "p q.", "p\nq.", "p%\nq.", "f(a b) = c.", "f(A B) = c.", "p(X) %.\n", "p. q", "p. %q\nq")
}

// TestTokensSideBySide: each is as long as it can be.
func TestTokensSideBySide(t *testing.T) {
	expectParsed(t, "pX.p1.p_.pXY_9z.", "pX/0* p1/0* p_/0* pXY_9z/0*", "1=0. 2=0. 3=0. 4=0.")
	expectParsed(t, "Xp=X.X1=X.X_=X.XY_9z=X9.", "", "x0=x1. x0=x1. x0=x1. x0=x1.")
	expectParsed(t, "~a!=b.a!=b|~a=b.", "a/0 b/0", "1=2. 1!=2 | 1!=2.")
	expectParsed(t, "$false.$false.p.$false.", "p/0*", ". . 1=0. .")
	expectParsed(t, "false.true.", "false/0* true/0*", "1=0. 2=0.")
	expectParsed(t, "aA=Aa.", "aA/0", "1=x0.")
	expectParsed(t, "f(f(f(a)))=g(a,b)|~p(f(a),X)|q.", "f/1 a/0 g/2 b/0 p/2* q/0*", "1(1(1(2)))=3(2,4) | 5(1(2),x0)!=0 | 6=0.")
	expectParsed(t, "f (a)=b|f\n(a)=b.", "f/1 a/0 b/0", "1(2)=3 | 1(2)=3.")
	expectParsed(t, "zZ09_aAzZ=Zz09_AazZ.az=AZ.", "zZ09_aAzZ/0 az/0", "1=x0. 2=x0.")
	long := strings.Repeat("xY_7", 2500)
	expectParsed(t, "Z=z"+long+".z"+long+"=Z"+long+".", "z"+long+"/0", "x0=1. 1=x0.")
	expectForm(t, "$falsep.", "$false_.", "$falsefalse.", "$false$false.", "$fals.", "$fals e.", "$ false.", "$False.", "$FALSE.", "$", "$f", "$false", "$true.", "p = $true.", "p | $true.", "a ! = b.", "a ~= b.", "a =! b.", "a == b.", "a !!= b.", "a !== b.", "a ! b.", "1p.", "1.", "_p.", "_.", "9X = a.", "p1 2.", "p-q = a.", "p'.")
}

func TestSigns(t *testing.T) {
	expectParsed(t, "a = b.", "a/0 b/0", "1=2.")
	expectParsed(t, "~a = b.", "a/0 b/0", "1!=2.")
	expectParsed(t, "a != b.", "a/0 b/0", "1!=2.")
	expectParsed(t, "~a != b.", "a/0 b/0", "1=2.")
	expectParsed(t, "p.", "p/0*", "1=0.")
	expectParsed(t, "~p.", "p/0*", "1!=0.")
	expectParsed(t, "X = Y | ~X = Y | X != Y | ~X != Y.", "", "x0=x1 | x0!=x1 | x0!=x1 | x0=x1.")
	expectForm(t, "~~p.", "~~a = b.", "~.", "~", "p~.", "p~q.", "a = ~b.", "a != ~b.", "~a = ~b.", "p(~a).", "f(~a) = b.", "~(p).", "(p).", "(a = b).", "~(a = b).", "a = .", "= a.", "!= a.", "a =", "a !=", "= .", "a = b = c.", "a = b != c.", "a != b != c.", "p(a = b).", "p(a) = b | .")
}

func TestFalse(t *testing.T) {
	expectParsed(t, "$false.", "", ".")
	expectParsed(t, " $false . ", "", ".")
	expectParsed(t, "$false.p.", "p/0*", ". 1=0.")
	expectParsed(t, "p.$false.", "p/0*", "1=0. .")
	expectForm(t, "$false | p.", "p | $false.", "$false | $false.", "~$false.", "$false = a.", "a = $false.", "$false != $false.", "f($false) = a.", "p($false).", "$false(a).", "$false.$false", "$false p.", "p $false.", "p.$false", ".", "..", "p..", ".p.", "$false..", ". $false.")
}

func TestPartsAndPoints(t *testing.T) {
	expectForm(t, "p", "p(", "p(a", "p(a)", "p(a,", "p(a,b", "p(a,b)", "p().", "p(,).", "p(a,).", "p(,a).", "p(a,,b).", "p(a b).", "p(a)).", "p((a)).", "p(a.", "p(a.).", "p)a(.", "p(a)(b).", "p(a)b.", "p(a)b(c).", "p,q.", "p|q", "p|", "p|.", "|p.", "|.", "|", "p||q.", "p(X)|.", "p(X|Y).", "p|q|.", "p(a)=f(b.", "f(a)=b),", "p(X) q.", "p, q.", "p;q.", "p & q.", "p -> q.", "p:q.", "[p].", "{p}.", "\"p\".")
}

func TestGreatNames(t *testing.T) {
	expectForm(t, "X.", "~X.", "X | p.", "p | X.", "p | ~X.", "X(a).", "X(a) = b.", "a = X(b).", "p(X(a)).", "p(X()).", "Xp | p.", "p. X.", "X")
	expectParsed(t, "X = a.", "a/0", "x0=1.")
	expectParsed(t, "a = X.", "a/0", "1=x0.")
	expectParsed(t, "X != X.", "", "x0!=x0.")
	expectParsed(t, "p(Y,X,Y)|q(Z)|r(X).p(X,Y,Z).q(Z).r(Y).", "p/3* q/1* r/1*", "1(x0,x1,x0)=0 | 2(x2)=0 | 3(x1)=0. 1(x0,x1,x2)=0. 2(x0)=0. 3(x0)=0.")
	expectParsed(t, "Y = f(X, Y) | Z = X.$false.Z = f(Y, X).", "f/2", "x0=1(x1,x0) | x2=x1. . x0=1(x1,x2).")
	expectParsed(t, "p(X, x, X1, x1, XX, xx).", "p/6* x/0 x1/0 xx/0", "1(x0,2,x1,3,x2,4)=0.")
	expectParsed(t, "Xy = xy.", "xy/0", "x0=1.")
}

// TestNumbersOfSymbols: a name stands ahead of its parts, and a symbol keeps its
// number in all clauses.
func TestNumbersOfSymbols(t *testing.T) {
	expectParsed(t, "f(g(b), a) = c | p(c, a) | q.", "f/2 g/1 b/0 a/0 c/0 p/2* q/0*", "1(2(3),4)=5 | 6(5,4)=0 | 7=0.")
	expectParsed(t, "q. p(a). q | p(b). b = a.", "q/0* p/1* a/0 b/0", "1=0. 2(3)=0. 1=0 | 2(4)=0. 4=3.")
	expectParsed(t, "% z y\n~y | ~z.", "y/0* z/0*", "1!=0 | 2!=0.")
}

func TestUnlikeNumbersOfParts(t *testing.T) {
	expectForm(t,
		"p(a) | p(a, b).", "p(a, b) | p(a).", "p(a). p(a, b).", "p(a, b). q. p(a).",
		"p | p(a).", "p(a) | p.", "p. p(a).", "p(a). p.", "~p | p(a).",
		"f(a) = f(a, b).", "f(a, b) = f(a).", "f(a) = b. f(a, b) = b.", "f = f(a).", "f(a) = f.",
		"f(f) = a.", "f(f(a), a) = f(a).", "p(f(a), f(a, a)).", "p(f(a)) | q(f).", "p(f(a)). q(f).", "p(f). q(f(a)).",
		"p(g(f(a))) | g(f(a, a)) = a.", "a(a) = b.", "p(a(X), a).",
		"p(p).", "p(p(a)).",
	)
	expectParsed(t, "p(a, b) | p(b, a). ~p(f(a), f(b)).", "p/2* a/0 b/0 f/1", "1(2,3)=0 | 1(3,2)=0. 1(4(2),4(3))!=0.")
}

func TestPredicatesAreNoTerms(t *testing.T) {
	expectForm(t,
		// Within a term, ahead of and behind the place where it is a predicate.
		"p | q(p).", "q(p) | p.", "p. q(p).", "q(p). p.", "p | f(p) = a.", "f(p) = a | p.", "p. f(p) = a.", "f(p) = a. p.",
		"p(a). q(p(a)).", "q(p(a)). p(a).", "p(a). q(f(p(a))).", "q(f(p(a))) | p(a).", "p(p(a)).", "p(f(p(a))).",
		"~p. f(p) = a.", "p. X = f(p).", "X = f(p). ~p.",
		// As a side of =.
		"p | p = a.", "p = a | p.", "p. p = a.", "p = a. p.", "p | a = p.", "a = p | p.", "p. a = p.", "a = p. p.", "p. a != p.", "p != a. p.",
		"p(a) | p(a) = a.", "p(a) = a | p(a).", "p(a). X = p(a).", "X = p(a). p(a).", "p(a) = p(b). p(a).", "~p(a) | p(a) = X.", "p = p. p.", "p. p = p.",
		"f(a) = b. f(a).", "q(a) | a.", "a | q(a).", "a. a = X.",
	)
	expectParsed(t, "p | f(q) = a.", "p/0* f/1 q/0 a/0", "1=0 | 2(3)=4.")
	expectParsed(t, "p = q. r(p, q).", "p/0 q/0 r/2*", "1=2. 3(1,2)=0.")
}

func chain(depth int, last string) string {
	return strings.Repeat("f(", depth-1) + last + strings.Repeat(")", depth-1)
}

func TestDepth(t *testing.T) {
	for _, last := range []string{"a", "X"} {
		for _, depth := range []int{1, 2, 31, 32} {
			expectOK(t, chain(depth, last)+" = a.", "a = "+chain(depth, last)+".", "X != "+chain(depth, last)+".", "p. ~"+chain(depth, last)+" = Y.")
			if depth > 1 {
				expectOK(t, "p("+chain(depth-1, last)+").", "~p("+chain(depth-1, last)+").", "a = b | p("+chain(depth-1, last)+").", "g(a, "+chain(depth-1, last)+", b) = b.")
			}
		}
		for _, depth := range []int{33, 34, 50, 1000} {
			expectForm(t, chain(depth, last)+" = a.", "a = "+chain(depth, last)+".", "X != "+chain(depth, last)+".", "p. ~"+chain(depth, last)+" = Y.")
			expectForm(t, "p("+chain(depth-1, last)+").", "~p("+chain(depth-1, last)+").", "a = b | p("+chain(depth-1, last)+").", "g(a, "+chain(depth-1, last)+", b) = b.")
		}
	}
	expectForm(t, strings.Repeat("f(", 1<<14), strings.Repeat("(", 1<<15), "p"+strings.Repeat("(", 1<<15-1), strings.Repeat("~", 1<<15), strings.Repeat("f(", 10000)+"a"+strings.Repeat(")", 10000)+".")
	// Side by side they are none the deeper.
	expectOK(t, "p("+strings.Repeat("f(a),", 26)+"f(a)).", "f(f(a)) = f(f(a)) | f(f(f(X))) = X | p(f(a), f(f(a)), f(f(f(a)))).")
}

// filled is a source of so many bytes.
func filled(src, by string, size int) string {
	return (src + strings.Repeat(by, size))[:size]
}

func TestBytes(t *testing.T) {
	for _, src := range []string{"p.", "", "% p\n", "$false.", "p(X) | ~q.\n"} {
		for _, by := range []string{" ", "\n", "%", "% \n"} {
			expectOK(t, filled(src, by, 1<<15), filled(src, by, 1<<15-1))
			expectError(t, filled(src, by, 1<<15+1), api.Large)
			expectError(t, filled(src, by, 1<<15+7), api.Large)
			expectError(t, filled(src, by, 1<<17), api.Large)
		}
	}
	for _, src := range []string{"p", "X.", "!", "\x00", "p(a). p.", "p. p = a.", chain(33, "a") + " = a.", strings.Repeat("p.", 65), "\xff"} {
		expectError(t, filled(src, " ", 1<<15-1), api.Form)
		expectError(t, filled(src, " ", 1<<15), api.Form)
		expectError(t, filled(src, " ", 1<<15+1), api.Large)
		expectError(t, filled(src, "~", 1<<16), api.Large)
	}
	name := "p" + strings.Repeat("q", 1<<15-2)
	expectParsed(t, name+".", name+"/0*", "1=0.")
	expectError(t, name+"q.", api.Large)
	expectError(t, name+"q", api.Form)
	expectError(t, " "+name+".", api.Large)
	expectError(t, strings.Repeat("\xff", 1<<20), api.Large)
}

func TestClauses(t *testing.T) {
	for _, one := range []string{"p.", "$false.", "X = Y. ", "p(a) | q.\n"} {
		for _, count := range []int{1, 2, 63, 64} {
			src := strings.Repeat(one, count)
			expectOK(t, src)
			if _, list, _ := Parse(src); len(list) != count {
				t.Errorf("P12.1: %d clauses: %d are told", count, len(list))
			}
		}
		expectForm(t, strings.Repeat(one, 65), strings.Repeat(one, 66), strings.Repeat(one, 2000), strings.Repeat(one, 64)+"$false.", strings.Repeat(one, 64)+"q.")
		expectForm(t, strings.Repeat(one, 63)+"q", strings.Repeat(one, 64)+".")
		expectOK(t, strings.Repeat(one, 64)+"% p.", strings.Repeat(one, 64)+" \n")
	}
}

// manySymbols has so many small names, some of them in each clause.
func manySymbols(count int, begin, end string, each int) string {
	var src strings.Builder
	for n := range count {
		if n%each == 0 {
			src.WriteString(begin)
		} else {
			src.WriteString(", ")
		}
		src.WriteString("c" + strconv.Itoa(n))
		if n%each == each-1 || n == count-1 {
			src.WriteString(end)
		}
	}
	return src.String()
}

func TestSymbols(t *testing.T) {
	var names []string
	for n := range 200 {
		names = append(names, "c"+strconv.Itoa(n)+"/0*")
	}
	atoms := func(count int) string {
		return strings.ReplaceAll(manySymbols(count, "", ".\n", 20), ", ", " | ")
	}
	sig, list, err := Parse(atoms(200))
	if err != api.OK || len(list) != 10 || sigText(sig) != "$true/0* "+strings.Join(names, " ") || list[9][19].A.F != 200 {
		t.Errorf("P12.1: 200 symbols: %v, %v, %d", sig, list, err)
	}
	expectOK(t, atoms(199), atoms(200), atoms(200)+"c0. ~c199.", atoms(200)+"X = Y.$false.", atoms(199)+"d.")
	expectForm(t, atoms(201), atoms(202), atoms(300), atoms(200)+"d.", atoms(200)+"d = X.", atoms(200)+"X = d.")
	// Parts count, and the names that have them: there is p beside the 198.
	for _, k := range []struct{ begin, end string }{{"p(", ")."}, {"X = p(", ")."}, {"p(", ") != X."}} {
		src := manySymbols(198, k.begin, k.end, 18)
		again := k.begin + strings.Repeat("d, ", 17)
		expectOK(t, src, src+"d.", src+"X = d.", src+again+"d"+k.end, src+again+"X"+k.end, src+again+"c197"+k.end)
		expectForm(t, src+"d | e.", src+"d = e.", src+again+"e"+k.end, src+"f(d) = X.", src+"q(d).")
	}
}

// TestWeight: each symbol and variable weighs 1, $true behind an atom too.
func TestWeight(t *testing.T) {
	row := func(count int, one string) string { return strings.TrimSuffix(strings.Repeat(one, count), " | ") + "." }
	expectOK(t, row(29, "p | "), row(30, "p | "), row(30, "X = Y | "), row(30, "~a != a | "), row(20, "p(X) | "), row(15, "f(X) = f(a) | "))
	expectForm(t, row(31, "p | "), row(31, "X = Y | "), row(31, "~a != a | "), row(21, "p(X) | "), row(16, "f(X) = f(a) | "))
	for count := 1; count <= 60; count++ {
		atom := "p(" + strings.Repeat("X, ", count-1) + "a)."
		side := "p(" + strings.Repeat("X, ", count-1) + "a) = X."
		other := "q | X != p(" + strings.Repeat("b, ", count-1) + "Y)."
		if count <= 58 {
			expectOK(t, atom, side, "$false."+atom+"$false.")
		} else {
			expectForm(t, atom, side, "$false."+atom+"$false.")
		}
		if count <= 56 {
			expectOK(t, other)
		} else {
			expectForm(t, other)
		}
	}
	// By all literals of a clause together, and by no two clauses.
	expectOK(t, "p("+strings.Repeat("a, ", 55)+"b) | X = Y.", "p("+strings.Repeat("a, ", 55)+"b) | q.", strings.Repeat("p("+strings.Repeat("a, ", 57)+"b).\n", 64))
	expectForm(t, "p("+strings.Repeat("a, ", 55)+"b) | q(a).", "p("+strings.Repeat("a, ", 55)+"b) | f(X) = Y.", "q | p("+strings.Repeat("a, ", 57)+"b).", "p. p("+strings.Repeat("a, ", 58)+"b).")
	// Heavy ones of many names end as well.
	var many strings.Builder
	for n := range 4000 {
		many.WriteString("X" + strconv.Itoa(n) + "=Y|")
	}
	expectForm(t, many.String()+"p.")
}

// TestEveryByte puts each byte ahead of, within and behind tokens, and into
// remarks.
func TestEveryByte(t *testing.T) {
	// All bytes that a token, a blank or a remark begins with.
	const begins = "abcdefghijklmnopqrstuvwxyzABCDEFGHIJKLMNOPQRSTUVWXYZ$(),|~=!. \t\n\r%"
	for n := range 256 {
		one := string([]byte{byte(n)})
		sources := []string{
			one, one + "p.", "p" + one + ".", "p" + one + "q.", "p." + one, "p(" + one + "X).", "p(X" + one + ").", "a" + one + "b.", "a " + one + " b.", "~" + one + "p.",
			"a !" + one + " b.", "a " + one + "= b.", "$" + one + "alse.", "$fals" + one + ".", "$false" + one, "$false" + one + ".", one + "X = a.", "X" + one + "= a.", "% " + one + "\np.",
		}
		for _, src := range sources {
			expectByWords(t, src)
		}
		if !strings.Contains(begins, one) {
			expectForm(t, one, one+"p.", "p."+one, "p "+one+".", "p"+one, "p("+one+"X).", "p(X) | "+one+" q.")
		}
		if n != '\n' {
			expectParsed(t, "p % "+one+one+"\n.%"+one, "p/0*", "1=0.")
		}
	}
	expectForm(t, "\x0bp.", "p\x0c.", "p.\x00", "p.\xa0", "p.\u00a0", "p.\u2028", "ä.", "Ä = a.", "p(ä).", "pä.", "Xé = a.", "p.\xef\xbb\xbf", "\xef\xbb\xbfp.", "p.\x1a", "\x85p.", "p\u0131.", "p\u0660.")
}

// TestNothingIsKept: what was told of a source is the caller's, and another call
// tells the same again.
func TestNothingIsKept(t *testing.T) {
	src := "f(X) = a | p(f(X), Y). ~p(a, a). $false."
	sig, list, err := Parse(src)
	want := sigText(sig) + clausesText(list)
	sig.Names[1], sig.Arity[1], sig.Pred[1] = "h", 5, true
	list[0][0].A.L[0].F = 77
	list[0][1] = api.Lit{}
	list[1] = nil
	for _, other := range []string{"", "p", "g(b) = f(b, c). q.", src} {
		Parse(other)
	}
	again, clauses, err2 := Parse(src)
	if err != api.OK || err2 != api.OK || sigText(again)+clausesText(clauses) != want {
		t.Errorf("R6: Parse again = %v, %v, %d", again, clauses, err2)
	}
}
