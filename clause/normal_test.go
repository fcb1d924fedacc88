package clause

import (
	"math"
	"slices"
	"testing"

	"sorites/api"
	"sorites/subst"
	"sorites/term"
)

func blanked(l api.Lit) api.Lit {
	return changedAll(of(l), func(int) api.T { return x(0) })[0]
}

// look is by the chapter's words.
func look(l api.Lit) api.Lit {
	l = blanked(l)
	if term.Compare(l.A, l.B) < 0 {
		return flipped(l)
	}
	return l
}

// ahead tells whether a look stands ahead of another one.
func ahead(a, b api.Lit) bool {
	if a.Neg != b.Neg {
		return b.Neg
	}
	if order := term.Compare(a.A, b.A); order != 0 {
		return order < 0
	}
	return term.Compare(a.B, b.B) < 0
}

// renumbered has the variables' numbers from 0 on, as they first stand.
func renumbered(c api.Clause) api.Clause {
	var numbers []int
	walkAll(c, func(t api.T) {
		if t.F < 0 && !slices.Contains(numbers, t.F) {
			numbers = append(numbers, t.F)
		}
	})
	return changedAll(c, func(v int) api.T { return x(slices.Index(numbers, -1-v)) })
}

// once has the first of each literals that are the same.
func once(c api.Clause) api.Clause {
	var list api.Clause
	for _, l := range c {
		if !slices.ContainsFunc(list, func(m api.Lit) bool { return litText(l) == litText(m) }) {
			list = append(list, l)
		}
	}
	return list
}

// plainNorm goes by the chapter's words, step by step.
func plainNorm(c api.Clause) api.Clause {
	var list api.Clause
	for _, l := range c {
		if b := blanked(l); term.Compare(b.A, b.B) < 0 {
			l = flipped(l)
		}
		n := len(list)
		for n > 0 && ahead(look(l), look(list[n-1])) {
			n--
		}
		list = slices.Insert(list, n, l)
	}
	return once(renumbered(list))
}

// expectNorm holds what is made normal against the words, and that nothing is
// left to make so.
func expectNorm(t *testing.T, c api.Clause) {
	t.Helper()
	was := imageOf(c)
	got := Norm(c)
	expectTold(t, "P11.1: Norm of "+texts(c), got, texts(plainNorm(c)))
	expectNew(t, "Norm", got, c)
	again := Norm(got)
	expectTold(t, "P11.1: Norm of a normal one", again, texts(got))
	expectNew(t, "Norm of a normal one", again, got)
	unchanged(t, c, was)
}

func TestKnownNorms(t *testing.T) {
	known := []struct {
		name    string
		c, want api.Clause
	}{
		{"nil", nil, nil},
		{"no literals", api.Clause{}, nil},
		{"nothing in a literal", of(api.Lit{}), of(api.Lit{})},
		{"the chapter's example", of(eq(g(x(0)), c)), of(eq(g(x(0)), c))},
		{"normal already", of(eq(x(0), x(1)), eq(d, c), ne(g(x(1)), c)), of(eq(x(0), x(1)), eq(d, c), ne(g(x(1)), c))},

		{"turned by symbols", of(eq(c, d)), of(eq(d, c))},
		{"turned, Neg", of(ne(c, d)), of(ne(d, c))},
		{"stands right", of(eq(d, c)), of(eq(d, c))},
		{"turned, a variable and a symbol", of(eq(x(0), truth)), of(eq(truth, x(0)))},
		{"turned by fewer parts", of(eq(f(c), f(c, c))), of(eq(f(c, c), f(c)))},
		{"turned by parts", of(eq(f(c, c), f(c, d))), of(eq(f(c, d), f(c, c)))},
		{"turned by a variable within", of(eq(f(x(4)), f(c))), of(eq(f(c), f(x(0))))},
		{"turned by the look, not by numbers", of(eq(f(x(0), d), f(x(1), c))), of(eq(f(x(0), d), f(x(1), c)))},
		{"turned by the look, against numbers", of(eq(f(x(1), c), f(x(0), d))), of(eq(f(x(0), d), f(x(1), c)))},

		{"two variables stay", of(eq(x(1), x(0)), eq(g(x(1)), c)), of(eq(x(0), x(1)), eq(g(x(0)), c))},
		{"two variables stay, the other way", of(eq(x(0), x(1)), eq(g(x(1)), c)), of(eq(x(0), x(1)), eq(g(x(1)), c))},
		{"looks alike on both sides stay", of(eq(f(x(0), x(0), x(1)), f(x(1), x(0), x(0)))), of(eq(f(x(0), x(0), x(1)), f(x(1), x(0), x(0))))},
		{"looks alike on both sides stay, the other way", of(eq(f(x(1), x(0), x(0)), f(x(0), x(0), x(1)))), of(eq(f(x(0), x(1), x(1)), f(x(1), x(1), x(0))))},
		{"looks alike on both sides, turned ones are no doubles", of(eq(x(0), x(1)), eq(x(1), x(0))), of(eq(x(0), x(1)), eq(x(1), x(0)))},

		{"Neg last", of(ne(c, c), eq(d, d)), of(eq(d, d), ne(c, c))},
		{"Neg last, of the same sides", of(ne(d, c), eq(d, c)), of(eq(d, c), ne(d, c))},
		{"by A", of(eq(g(c), c), eq(d, c), eq(f(c), c)), of(eq(d, c), eq(g(c), c), eq(f(c), c))},
		{"by A ahead of B", of(eq(g(c), c), eq(d, d)), of(eq(d, d), eq(g(c), c))},
		{"by B", of(eq(g(c), d), eq(g(c), c)), of(eq(g(c), c), eq(g(c), d))},
		{"by A, of Neg ones", of(ne(g(c), c), ne(d, c)), of(ne(d, c), ne(g(c), c))},
		{"by A, once turned", of(eq(c, g(c)), eq(d, c)), of(eq(d, c), eq(g(c), c))},
		{"variables first", of(eq(c, c), eq(x(5), x(5))), of(eq(x(0), x(0)), eq(c, c))},
		{"by looks, not by numbers", of(eq(f(x(1), c), c), eq(f(x(0), d), c)), of(eq(f(x(0), c), c), eq(f(x(1), d), c))},
		{"by looks, against numbers", of(eq(f(x(0), d), c), eq(f(x(1), c), c)), of(eq(f(x(0), c), c), eq(f(x(1), d), c))},
		{"alike looks as they stand", of(eq(p(x(1)), truth), eq(p(x(0)), truth), ne(g(x(0)), c)), of(eq(p(x(0)), truth), eq(p(x(1)), truth), ne(g(x(1)), c))},
		{"alike looks as they stand, the other way", of(eq(p(x(0)), truth), eq(p(x(1)), truth), ne(g(x(0)), c)), of(eq(p(x(0)), truth), eq(p(x(1)), truth), ne(g(x(0)), c))},
		{"alike looks, one of them turned", of(eq(truth, p(x(1))), eq(p(x(0)), truth), ne(g(x(1)), c)), of(eq(p(x(0)), truth), eq(p(x(1)), truth), ne(g(x(0)), c))},

		{"new numbers", of(eq(f(x(9), x(4), x(9)), x(6))), of(eq(f(x(0), x(1), x(0)), x(2)))},
		{"new numbers, A ahead of B", of(eq(g(x(3)), x(1)), eq(f(x(1)), x(3))), of(eq(g(x(0)), x(1)), eq(f(x(1)), x(0)))},
		{"new numbers, as they stand once in order", of(ne(c, x(8)), eq(c, x(9))), of(eq(c, x(0)), ne(c, x(1)))},
		{"new numbers, as they stand once turned", of(eq(g(x(2)), f(x(5)))), of(eq(f(x(0)), g(x(1))))},
		{"new numbers, where doubles go", of(eq(g(x(2)), c), eq(g(x(2)), c), eq(f(x(3)), c)), of(eq(g(x(0)), c), eq(f(x(1)), c))},

		{"doubles", of(eq(d, c), eq(d, c)), of(eq(d, c))},
		{"doubles, Neg", of(ne(d, c), ne(d, c), ne(d, c)), of(ne(d, c))},
		{"doubles once turned", of(eq(c, d), eq(d, c)), of(eq(d, c))},
		{"doubles behind new numbers", of(ne(c, g(x(7))), eq(x(2), g(x(2))), ne(g(x(7)), c)), of(eq(g(x(0)), x(0)), ne(g(x(1)), c))},
		{"doubles of the same variables", of(eq(x(5), x(3)), eq(x(5), x(3))), of(eq(x(0), x(1)))},
		{"doubles far from each other", of(eq(g(x(4)), c), eq(g(x(5)), c), eq(c, g(x(4))), eq(g(x(6)), c), eq(g(x(5)), c)), of(eq(g(x(0)), c), eq(g(x(1)), c), eq(g(x(2)), c))},
		{"no doubles: other signs", of(eq(d, c), ne(d, c)), of(eq(d, c), ne(d, c))},
		{"no doubles: other signs, either way round", of(ne(c, d), eq(d, c)), of(eq(d, c), ne(d, c))},
		{"no doubles: variants", of(eq(p(x(3)), truth), eq(p(x(2)), truth)), of(eq(p(x(0)), truth), eq(p(x(1)), truth))},
		{"no doubles: one side alike", of(eq(g(c), c), eq(g(c), d)), of(eq(g(c), c), eq(g(c), d))},

		{"both sides the same", of(eq(g(x(3)), g(x(3)))), of(eq(g(x(0)), g(x(0))))},
		{"both sides the same, Neg", of(ne(x(3), x(3))), of(ne(x(0), x(0)))},
		{"both sides the same, both signs", of(ne(c, c), eq(c, c), ne(c, c)), of(eq(c, c), ne(c, c))},

		{"variables with parts", of(eq(loaded(4), g(loaded(3)))), of(eq(g(x(0)), x(1)))},
		{"variables with parts, doubles", of(eq(g(loaded(4)), c), eq(g(x(4)), c)), of(eq(g(x(0)), c))},
		{"variables with parts, alike looks", of(eq(g(loaded(1)), c), eq(g(x(0)), c), ne(loaded(0), x(0))), of(eq(g(x(0)), c), eq(g(x(1)), c), ne(x(1), x(1)))},
		{"a variable with parts and one without, alike looks", of(eq(x(1), loaded(0)), eq(c, x(0))), of(eq(x(0), x(1)), eq(c, x(1)))},
		{"no parts, nil and empty", of(eq(api.T{F: 1, L: []api.T{}}, d), eq(d, c)), of(eq(d, c))},
		{"numbers at the ends", of(eq(x(math.MaxInt), symbol(math.MaxInt, x(math.MaxInt-1)))), of(eq(symbol(math.MaxInt, x(0)), x(1)))},
	}
	for _, k := range known {
		expectTold(t, "P11.1: "+k.name+": Norm of "+texts(k.c), Norm(k.c), texts(k.want))
		expectNorm(t, k.c)
	}
}

// orders has every order of so many literals.
func orders(length int) [][]int {
	if length == 0 {
		return [][]int{nil}
	}
	var all [][]int
	for _, rest := range orders(length - 1) {
		for n := range length {
			all = append(all, slices.Insert(slices.Clone(rest), n, length-1))
		}
	}
	return all
}

// expectStillIt looks for an order of literals and sides, without doubles, of
// which a normal one is a variant.
func expectStillIt(t *testing.T, c api.Clause) {
	t.Helper()
	got := Norm(c)
	for _, order := range orders(len(c)) {
		for turns := range 1 << len(c) {
			var list api.Clause
			for n, place := range order {
				l := c[place]
				if turns>>n&1 == 1 {
					l = flipped(l)
				}
				list = append(list, l)
			}
			if plainVariant(once(list), got) {
				return
			}
		}
	}
	t.Fatalf("P11.3: Norm(%v) = %v says something else", c, got)
}

// expectNumbersDontCount holds that what is made normal hangs on no numbers of
// variables.
func expectNumbersDontCount(t *testing.T, c api.Clause) {
	t.Helper()
	want := texts(Norm(c))
	for _, put := range []func(v int) int{
		func(v int) int { return v + 5 },
		func(v int) int { return 50 - v },
		func(v int) int { return v ^ 1 },
		func(v int) int { return (v + 2) * 7 % 11 },
	} {
		other := changedAll(c, func(v int) api.T { return x(put(v)) })
		if got := Norm(other); texts(got) != want {
			t.Fatalf("P11.1: Norm(%v) = %v, but of %v %s", other, got, c, want)
		}
	}
}

func TestEverySmallClauseMadeNormal(t *testing.T) {
	for _, c := range smallClauses() {
		expectNorm(t, c)
		expectStillIt(t, c)
		expectNumbersDontCount(t, c)
	}
}

// TestLongerClausesMadeNormal has literals of many looks, with doubles among
// them, in many orders.
func TestLongerClausesMadeNormal(t *testing.T) {
	some := append(litsOf(x(0), x(3), loaded(1), d, g(x(0)), g(c), f(x(2), x(1))), litsOf(f(x(1), x(2)), p(x(5)), truth)...)
	for step := 1; step < len(some); step++ {
		for length := range 14 {
			var c api.Clause
			for n := range length {
				c = append(c, some[(n*step+length*n*n)%len(some)])
			}
			expectNorm(t, c)
			expectAlone(t, c)
			expectNumbersDontCount(t, c)
			expectBytes(t, c)
		}
	}
}

// TestBehindManyVariables has so many that the layers below no longer go
// through them one by one.
func TestBehindManyVariables(t *testing.T) {
	for _, many := range []int{60, 63, 64, 65, 66, 200} {
		var c api.Clause
		for n := range many {
			c = append(c, ne(g(x(many-n)), f(x(n))), eq(x(n), x(n+1)))
		}
		expectNorm(t, c)
		expectAlone(t, c)
		expectBytes(t, c)
		renamed := Rename(c, 1)
		if !Variant(c, renamed) || Variant(c, append(renamed, renamed[0])) || Variant(append(c, eq(x(0), x(0))), append(renamed, eq(x(2), x(2)))) {
			t.Errorf("P11.1: Variant, of %d variables", many)
		}
	}
}

// TestAppliedAndMadeNormal: what a substitution makes the same is a double.
func TestAppliedAndMadeNormal(t *testing.T) {
	a := of(eq(g(x(1)), c), eq(g(x(0)), c), ne(x(0), x(1)))
	got := Norm(Apply(subst.S{{V: 1, T: x(0)}}, a))
	expectTold(t, "P11.1: Norm", got, texts(of(eq(g(x(0)), c), ne(x(0), x(0)))))
	rest, count := Bare(got)
	expectTold(t, "P11.1: Bare", rest, texts(of(eq(g(x(0)), c))))
	if count != 1 {
		t.Errorf("P11.1: Bare tells %d", count)
	}
}

// read makes a term of bytes: each is a head and a number of parts.
func read(b []byte, depth int) (api.T, []byte) {
	if len(b) == 0 {
		return api.T{}, nil
	}
	head := int(b[0])
	t := api.T{F: head%8 - 4}
	b = b[1:]
	if depth > 0 {
		for range head / 8 % 4 {
			var part api.T
			part, b = read(b, depth-1)
			t.L = append(t.L, part)
		}
	}
	return t, b
}

// readClause makes a clause of bytes, so many literals as the first one says.
func readClause(b []byte) (api.Clause, []byte) {
	if len(b) == 0 {
		return nil, nil
	}
	count := int(b[0]) % 6
	b = b[1:]
	var c api.Clause
	for n := 0; n < count && len(b) > 0; n++ {
		l := api.Lit{Neg: b[0]%2 == 1}
		l.A, b = read(b[1:], 3)
		l.B, b = read(b, 3)
		c = append(c, l)
	}
	return c, b
}

func FuzzClauses(f *testing.F) {
	f.Add([]byte{})
	f.Add([]byte{3, 1, 5, 15, 2, 0, 3, 15, 3, 1, 15, 2, 5, 1, 0, 5, 4})
	f.Add([]byte{3, 0, 2, 3, 0, 3, 2, 1, 3, 2, 3, 0, 3, 2, 0, 2, 3, 1, 2, 3})
	f.Add([]byte{5, 0, 23, 3, 2, 23, 2, 3, 1, 4, 4, 0, 4, 5, 1, 5, 4, 0, 11, 4, 3})
	f.Fuzz(func(t *testing.T, b []byte) {
		if len(b) > 120 {
			t.Skip()
		}
		first, b := readClause(b)
		second, _ := readClause(b)
		for _, c := range []api.Clause{first, second, slices.Concat(first, second)} {
			expectAlone(t, c)
			expectNorm(t, c)
			expectNumbersDontCount(t, c)
			expectBytes(t, c)
			expectTwo(t, c, Norm(c))
			if len(c) <= 4 {
				expectStillIt(t, c)
			}
		}
		expectTwo(t, first, second)
		expectTwo(t, Norm(first), Norm(second))
	})
}
