package term

import (
	"cmp"
	"math"
	"reflect"
	"slices"
	"testing"

	"sorites/api"
)

func symbol(f int, list ...api.T) api.T { return api.T{F: f, L: list} }

func variable(n int) api.T { return api.T{F: -1 - n} }

// loaded is a variable with parts, which count for nothing.
func loaded(n int) api.T {
	return api.T{F: -1 - n, L: []api.T{symbol(1), variable(9), symbol(7, variable(8))}}
}

// mark is what stands at a place, with how many parts it has: a term is the
// marks of all its places, one behind the other.
type mark struct {
	f, parts int
	place    []int
}

// marks goes through a term by a stack, as the program doesn't.
func marks(t api.T) []mark {
	type item struct {
		t     api.T
		place []int
	}
	var told []mark
	stack := []item{{t: t}}
	for len(stack) > 0 {
		top := stack[len(stack)-1]
		stack = stack[:len(stack)-1]
		list := top.t.L
		if top.t.F < 0 {
			list = nil
		}
		told = append(told, mark{top.t.F, len(list), top.place})
		for n := len(list) - 1; n >= 0; n-- {
			stack = append(stack, item{list[n], append(slices.Clone(top.place), n)})
		}
	}
	return told
}

func sameMark(a, b mark) bool { return a.f == b.f && a.parts == b.parts }

// plainCompare is the chapter's order, of marks: the first that differ tell it.
func plainCompare(a, b []mark) int {
	for i := range min(len(a), len(b)) {
		switch x, y := a[i], b[i]; {
		case sameMark(x, y):
		case x.f == y.f:
			return cmp.Compare(x.parts, y.parts)
		case x.f < 0 && y.f < 0:
			return cmp.Compare(y.f, x.f)
		case x.f < 0:
			return -1
		case y.f < 0:
			return 1
		default:
			return cmp.Compare(x.f, y.f)
		}
	}
	return 0
}

func plainVars(list []mark) []int {
	var numbers []int
	for _, m := range list {
		if m.f < 0 && !slices.Contains(numbers, -1-m.f) {
			numbers = append(numbers, -1-m.f)
		}
	}
	return numbers
}

func plainCount(list []mark, f int) int {
	count := 0
	for _, m := range list {
		if m.f == f {
			count++
		}
	}
	return count
}

// span tells which marks are those of the term at a place.
func span(list []mark, place []int) (int, int) {
	from := slices.IndexFunc(list, func(m mark) bool { return slices.Equal(m.place, place) })
	if from < 0 {
		return -1, -1
	}
	end := from
	for end < len(list) && len(list[end].place) >= len(place) && slices.Equal(list[end].place[:len(place)], place) {
		end++
	}
	return from, end
}

func expectMarks(t *testing.T, call string, got api.T, want []mark) {
	t.Helper()
	if told := marks(got); !slices.EqualFunc(told, want, sameMark) {
		t.Errorf("%s = %v, want the marks %v", call, got, want)
	}
}

// bare: no variable has parts.
func bare(t api.T) bool {
	return (t.F >= 0 || len(t.L) == 0) && !slices.ContainsFunc(t.L, func(u api.T) bool { return !bare(u) })
}

// spoil writes over all memory of a term.
func spoil(t api.T) {
	for n := range t.L {
		spoil(t.L[n])
		t.L[n] = api.T{F: 99, L: []api.T{{F: 98}}}
	}
	spare := t.L[len(t.L):cap(t.L)]
	for n := range spare {
		spare[n] = api.T{F: 97}
	}
}

// copied is a term to hold against, whatever becomes of the first one, with
// all that lies in a variable's list.
func copied(t api.T) api.T {
	list := slices.Clone(t.L)
	for n := range list {
		list[n] = copied(list[n])
	}
	return api.T{F: t.F, L: list}
}

// unchanged holds that a term is what it was ahead of calls, in its variables'
// parts too.
func unchanged(t *testing.T, now, was api.T) {
	t.Helper()
	if !reflect.DeepEqual(now, was) {
		t.Errorf("R4: %v became %v", was, now)
	}
}

// termsOfSize has every term of a size, of two symbols and three variables,
// one of which has parts.
func termsOfSize(size int) []api.T {
	if size == 1 {
		return []api.T{variable(0), variable(1), loaded(0), symbol(0), symbol(3)}
	}
	var list []api.T
	for _, f := range []int{0, 3} {
		for _, l := range listsOfSize(size - 1) {
			list = append(list, symbol(f, l...))
		}
	}
	return list
}

// listsOfSize has every list of terms with that size in all.
func listsOfSize(size int) [][]api.T {
	if size == 0 {
		return [][]api.T{nil}
	}
	var lists [][]api.T
	for first := 1; first <= size; first++ {
		for _, t := range termsOfSize(first) {
			for _, rest := range listsOfSize(size - first) {
				lists = append(lists, append([]api.T{t}, rest...))
			}
		}
	}
	return lists
}

func termsUpTo(size int) []api.T {
	var list []api.T
	for n := 1; n <= size; n++ {
		list = append(list, termsOfSize(n)...)
	}
	return list
}

// chain is a term with so many parts nested in one another, each but the last
// one with a constant beside it.
func chain(depth int, end api.T) api.T {
	t := end
	for range depth {
		t = symbol(2, t, symbol(4))
	}
	return t
}

func TestKnownTerms(t *testing.T) {
	example := symbol(2, variable(0), symbol(1))
	known := []struct {
		t         api.T
		size, top int
		vars      []int
	}{
		{api.T{}, 1, -1, nil},
		{symbol(7), 1, -1, nil},
		{symbol(math.MaxInt), 1, -1, nil},
		{variable(0), 1, 0, []int{0}},
		{loaded(0), 1, 0, []int{0}},
		{loaded(5), 1, 5, []int{5}},
		{api.T{F: math.MinInt}, 1, math.MaxInt, []int{math.MaxInt}},
		{example, 3, 0, []int{0}},
		{symbol(2, symbol(1), symbol(1, symbol(1))), 4, -1, nil},
		{symbol(2, variable(3), variable(1), variable(3)), 4, 3, []int{3, 1}},
		{symbol(2, symbol(1, loaded(2)), variable(2), symbol(3, variable(0), loaded(1))), 7, 2, []int{2, 0, 1}},
		{symbol(0, variable(1), api.T{F: math.MinInt}, variable(1)), 4, math.MaxInt, []int{1, math.MaxInt}},
	}
	for _, k := range known {
		if got := Size(k.t); got != k.size {
			t.Errorf("P6.1: Size(%v) = %d, want %d", k.t, got, k.size)
		}
		if got := Top(k.t); got != k.top {
			t.Errorf("P6.1: Top(%v) = %d, want %d", k.t, got, k.top)
		}
		if got := Vars(k.t); !slices.Equal(got, k.vars) {
			t.Errorf("P6.1: Vars(%v) = %v, want %v", k.t, got, k.vars)
		}
	}
}

func TestCountKnownTerms(t *testing.T) {
	x := symbol(2, variable(0), symbol(2, loaded(0), symbol(1)), api.T{F: math.MinInt}, symbol(math.MaxInt), symbol(0))
	known := []struct{ f, count int }{
		{2, 2}, {1, 1}, {0, 1}, {-1, 2}, {-2, 0}, {7, 0}, {-9, 0}, {-10, 0}, {3, 0},
		{math.MinInt, 1}, {math.MinInt + 1, 0}, {math.MaxInt, 1}, {math.MaxInt - 1, 0},
	}
	for _, k := range known {
		if got := Count(x, k.f); got != k.count {
			t.Errorf("P6.1: Count(%v, %d) = %d, want %d", x, k.f, got, k.count)
		}
	}
}

// TestKnownOrder has terms in the chapter's order, each less than all behind it.
func TestKnownOrder(t *testing.T) {
	rising := []api.T{
		variable(0),
		loaded(1),
		variable(2),
		{F: math.MinInt + 1},
		{F: math.MinInt, L: []api.T{{}}},
		symbol(0),
		symbol(0, variable(0)),
		symbol(0, symbol(5)),
		symbol(0, variable(0), variable(0)),
		symbol(1),
		symbol(2, loaded(0), symbol(1)),
		symbol(2, variable(0), symbol(1, variable(0))),
		symbol(2, variable(0), symbol(3)),
		symbol(2, variable(1), variable(0)),
		symbol(2, symbol(0), symbol(9, symbol(9))),
		symbol(2, symbol(0, symbol(0)), variable(0)),
		symbol(2, symbol(1), variable(0)),
		symbol(2, variable(0), variable(0), variable(0)),
		symbol(math.MaxInt - 1),
		symbol(math.MaxInt),
		symbol(math.MaxInt, symbol(math.MaxInt)),
	}
	for i, a := range rising {
		for j, b := range rising {
			if got := Compare(a, b); got != cmp.Compare(i, j) {
				t.Errorf("P6.1: Compare(%v, %v) = %d, want %d", a, b, got, cmp.Compare(i, j))
			}
			if got := Same(a, b); got != (i == j) {
				t.Errorf("P6.1: Same(%v, %v) = %v", a, b, got)
			}
		}
	}
}

func TestPartsOfVariablesCountForNothing(t *testing.T) {
	pairs := [][2]api.T{
		{variable(0), loaded(0)},
		{loaded(3), api.T{F: -4, L: []api.T{symbol(5)}}},
		{symbol(2, variable(0), symbol(1)), symbol(2, loaded(0), api.T{F: 1, L: []api.T{}})},
	}
	for _, p := range pairs {
		a, b := p[0], p[1]
		if !Same(a, b) || !Same(b, a) || Compare(a, b) != 0 || Compare(b, a) != 0 {
			t.Errorf("P6.1: %v and %v are not told the same", a, b)
		}
	}
}

// TestEveryPairOfSmallTerms holds the order against the plain one, and with it
// that it is one: marks are.
func TestEveryPairOfSmallTerms(t *testing.T) {
	terms := termsUpTo(4)
	var told [][]mark
	for _, x := range terms {
		told = append(told, marks(x))
	}
	for i, a := range terms {
		for j, b := range terms {
			want := plainCompare(told[i], told[j])
			if got := Compare(a, b); got != want {
				t.Fatalf("P6.1: Compare(%v, %v) = %d, want %d", a, b, got, want)
			}
			if got := Same(a, b); got != (want == 0) {
				t.Fatalf("P6.1: Same(%v, %v) = %v", a, b, got)
			}
		}
	}
}

// expectTerm holds all that is asked of one term against its marks.
func expectTerm(t *testing.T, x api.T) {
	t.Helper()
	was := copied(x)
	list := marks(x)
	vars := plainVars(list)
	if got := Size(x); got != len(list) {
		t.Errorf("P6.1: Size(%v) = %d, want %d", x, got, len(list))
	}
	if got := Vars(x); !slices.Equal(got, vars) {
		t.Errorf("P6.1: Vars(%v) = %v, want %v", x, got, vars)
	}
	if got, want := Top(x), slices.Max(append(vars, -1)); got != want {
		t.Errorf("P6.1: Top(%v) = %d, want %d", x, got, want)
	}
	for _, f := range []int{-3, -2, -1, 0, 1, 2, 3, 7} {
		if got, want := Count(x, f), plainCount(list, f); got != want {
			t.Errorf("P6.1: Count(%v, %d) = %d, want %d", x, f, got, want)
		}
	}
	clone := Clone(x)
	expectMarks(t, "P6.1: Clone", clone, list)
	if !bare(clone) {
		t.Errorf("P6.1: Clone(%v) = %v: a variable has parts", x, clone)
	}
	spoil(clone)
	unchanged(t, x, was)
	expectPlaces(t, x)
	unchanged(t, x, was)
}

// expectPlaces holds the places against the marks, and asks At for each of
// them and for what lies beside and below them.
func expectPlaces(t *testing.T, x api.T) {
	t.Helper()
	list := marks(x)
	places := Places(x)
	if !slices.EqualFunc(places, list, func(p []int, m mark) bool { return slices.Equal(p, m.place) }) {
		t.Errorf("P6.2: Places(%v) = %v, want those of %v", x, places, list)
		return
	}
	for _, m := range list {
		got, ok := At(x, m.place)
		if !ok || got.F != m.f || !bare(got) {
			t.Errorf("P6.2: At(%v, %v) = %v, %v", x, m.place, got, ok)
		}
		from, end := span(list, m.place)
		expectMarks(t, "P6.2: At", got, list[from:end])
		spoil(got)
		for _, n := range []int{math.MinInt, -1, m.parts, m.parts + 1, math.MaxInt} {
			expectNothing(t, x, append(slices.Clone(m.place), n))
			expectNothing(t, x, append(slices.Clone(m.place), n, 0))
		}
	}
}

// expectNothing holds what is told of a place that there isn't.
func expectNothing(t *testing.T, x api.T, place []int) {
	t.Helper()
	was := slices.Clone(place)
	if got, ok := At(x, place); ok || got.F != 0 || got.L != nil {
		t.Errorf("P6.2: At(%v, %v) = %v, %v, want nothing", x, place, got, ok)
	}
	if got, ok := Put(x, place, symbol(5, symbol(6))); ok || got.F != 0 || got.L != nil {
		t.Errorf("P6.2: Put(%v, %v) = %v, %v, want nothing", x, place, got, ok)
	}
	if !slices.Equal(place, was) {
		t.Errorf("R4: the place %v became %v", was, place)
	}
}

func TestEverySmallTerm(t *testing.T) {
	for _, x := range termsUpTo(5) {
		expectTerm(t, x)
	}
}

func TestKnownPlaces(t *testing.T) {
	known := []struct {
		t      api.T
		places [][]int
	}{
		{symbol(2, variable(0), symbol(1)), [][]int{{}, {0}, {1}}},
		{variable(4), [][]int{{}}},
		{loaded(4), [][]int{{}}},
		{symbol(1), [][]int{{}}},
		{api.T{F: 1, L: []api.T{}}, [][]int{{}}},
		{symbol(1, symbol(1, symbol(1, loaded(0)), symbol(1)), symbol(1)), [][]int{{}, {0}, {0, 0}, {0, 0, 0}, {0, 1}, {1}}},
	}
	for _, k := range known {
		if got := Places(k.t); !slices.EqualFunc(got, k.places, slices.Equal) {
			t.Errorf("P6.2: Places(%v) = %v, want %v", k.t, got, k.places)
		}
	}
}

func TestPlacesShareNoMemory(t *testing.T) {
	x := symbol(1, symbol(1, symbol(1, loaded(0), symbol(1)), symbol(1)), symbol(1), symbol(1, symbol(1, symbol(1))))
	places := Places(x)
	for i := range places {
		whole := places[i][:cap(places[i])]
		for n := range whole {
			whole[n] = -1 - i
		}
	}
	for i, place := range places {
		if slices.ContainsFunc(place, func(n int) bool { return n != -1-i }) {
			t.Errorf("R4: the place %d shares memory with another one: %v", i, place)
		}
	}
	expectPlaces(t, x)
}

func TestKnownPlacesThatThereAreNot(t *testing.T) {
	x := symbol(2, symbol(3, variable(0)), symbol(1), loaded(0))
	for _, place := range [][]int{
		{-1}, {3}, {4}, {math.MinInt}, {math.MaxInt}, {0, -1}, {0, 1}, {0, 0, 0}, {1, 0}, {1, -1}, {2, 0}, {2, 2}, {2, 2, 0}, {-1, 0}, {3, 0},
	} {
		expectNothing(t, x, place)
	}
	for _, alone := range []api.T{{}, variable(0), loaded(0), symbol(4)} {
		for _, place := range [][]int{{0}, {-1}, {1}, {2}, {2, 0}, {0, 0}} {
			expectNothing(t, alone, place)
		}
	}
}

func TestKnownPuts(t *testing.T) {
	x := symbol(2, symbol(3, variable(0)), symbol(1), loaded(0))
	known := []struct {
		place []int
		u     api.T
		want  api.T
	}{
		{nil, symbol(7), symbol(7)},
		{[]int{}, loaded(1), variable(1)},
		{[]int{0}, variable(2), symbol(2, variable(2), symbol(1), variable(0))},
		{[]int{0, 0}, symbol(5, symbol(6)), symbol(2, symbol(3, symbol(5, symbol(6))), symbol(1), variable(0))},
		{[]int{1}, symbol(1), symbol(2, symbol(3, variable(0)), symbol(1), variable(0))},
		{[]int{2}, api.T{}, symbol(2, symbol(3, variable(0)), symbol(1), api.T{})},
		{[]int{2}, x, symbol(2, symbol(3, variable(0)), symbol(1), symbol(2, symbol(3, variable(0)), symbol(1), variable(0)))},
	}
	for _, k := range known {
		got, ok := Put(x, k.place, k.u)
		if !ok || !reflect.DeepEqual(got, k.want) {
			t.Errorf("P6.2: Put(%v, %v, %v) = %v, %v, want %v", x, k.place, k.u, got, ok, k.want)
		}
	}
}

// expectPut holds that a term stands where it was put and that all beside it is
// as it was, and that the answer shares no memory with either of both.
func expectPut(t *testing.T, x api.T, place []int, u api.T) {
	t.Helper()
	xWas, uWas := copied(x), copied(u)
	list := marks(x)
	from, end := span(list, place)
	got, ok := Put(x, place, u)
	if !ok {
		t.Errorf("P6.2: Put(%v, %v, %v) tells false", x, place, u)
		return
	}
	expectMarks(t, "P6.2: Put", got, slices.Concat(list[:from], marks(u), list[end:]))
	if !bare(got) {
		t.Errorf("R4: Put(%v, %v, %v) = %v: a variable has parts", x, place, u, got)
	}
	if found, ok := At(got, place); !ok || !Same(found, u) {
		t.Errorf("P6.3: At(Put(%v, %v, %v)) = %v, %v", x, place, u, found, ok)
	}
	expectBeside(t, x, got, place)
	spoil(got)
	unchanged(t, x, xWas)
	unchanged(t, u, uWas)
}

// expectBeside holds that what stands at places that neither lead to the place
// nor lie below it is as it was.
func expectBeside(t *testing.T, x, changed api.T, place []int) {
	t.Helper()
	for _, other := range Places(x) {
		shared := min(len(other), len(place))
		if slices.Equal(other[:shared], place[:shared]) {
			continue
		}
		was, _ := At(x, other)
		if now, ok := At(changed, other); !ok || !Same(now, was) {
			t.Errorf("P6.3: put at %v in %v there is %v at %v, and not %v", place, x, now, other, was)
		}
	}
}

func TestEveryPutIntoSmallTerms(t *testing.T) {
	small := termsUpTo(3)
	for _, x := range termsUpTo(4) {
		for _, m := range marks(x) {
			for _, u := range small {
				expectPut(t, x, m.place, u)
			}
			own, _ := At(x, m.place)
			if again, ok := Put(x, m.place, own); !ok || !Same(again, x) {
				t.Errorf("P6.3: what stood at %v of %v, put there, makes %v", m.place, x, again)
			}
		}
	}
}

// TestPutIntoItself puts a term into itself, and parts of one list into one
// another: what is told shares no memory even where what is handed in does.
func TestPutIntoItself(t *testing.T) {
	list := []api.T{symbol(3, symbol(4)), loaded(1)}
	x := symbol(2, symbol(1, list...), symbol(1, list...))
	for _, m := range marks(x) {
		expectPut(t, x, m.place, x)
		expectPut(t, x, m.place, x.L[0])
	}
	clone := Clone(x)
	clone.L[0].L[0] = symbol(9)
	if clone.L[1].L[0].F != 3 {
		t.Errorf("P6.1: two parts of Clone(%v) share memory: %v", x, clone)
	}
}

// TestDeepTerms goes to the bound on parts nested in one another.
func TestDeepTerms(t *testing.T) {
	const depth = 1 << 16
	x, y := chain(depth, variable(7)), chain(depth, symbol(0))
	place := make([]int, depth)
	if Size(x) != 2*depth+1 || Top(x) != 7 || Count(x, 4) != depth || Count(x, -8) != 1 || !slices.Equal(Vars(x), []int{7}) {
		t.Errorf("P6.1: of a deep term Size %d, Top %d, Count %d, Vars %v", Size(x), Top(x), Count(x, 4), Vars(x))
	}
	if Compare(x, y) != -1 || Compare(y, x) != 1 || Same(x, y) || !Same(x, Clone(x)) || Compare(x, Clone(x)) != 0 {
		t.Error("P6.1: deep terms are held wrongly")
	}
	if got, ok := At(x, place); !ok || got.F != -8 {
		t.Errorf("P6.2: At of a deep place = %v, %v", got, ok)
	}
	expectNothing(t, variable(7), place)
	if _, ok := At(x, append(place, 0)); ok {
		t.Error("P6.2: At below a deep variable tells true")
	}
	if _, ok := Put(x, append(place, 0), y); ok {
		t.Error("P6.2: Put below a deep variable tells true")
	}
	if got, ok := Put(x, place, symbol(0)); !ok || !Same(got, y) {
		t.Error("P6.2: Put at a deep place makes another term")
	}
	if got, ok := At(x, place[:depth-1]); !ok || !Same(got, chain(1, variable(7))) {
		t.Errorf("P6.2: At ahead of the last part = %v, %v", got, ok)
	}
}

func TestPlacesOfADeepTerm(t *testing.T) {
	const depth = 1 << 10
	places := Places(chain(depth, variable(0)))
	if len(places) != 2*depth+1 {
		t.Fatalf("P6.2: a deep term has %d places", len(places))
	}
	for n, place := range places {
		want := make([]int, min(n, depth))
		if n > depth {
			want = append(make([]int, 2*depth-n), 1)
		}
		if !slices.Equal(place, want) {
			t.Fatalf("P6.2: the place %d of a deep term has %d numbers: %v", n, len(place), place)
		}
	}
}

func TestManyParts(t *testing.T) {
	const many = 1 << 18
	list := make([]api.T, many)
	for n := range list {
		list[n] = variable(n)
	}
	x := symbol(1, list...)
	if Size(x) != many+1 || Top(x) != many-1 || Count(x, -many) != 1 || len(Places(x)) != many+1 {
		t.Errorf("P6.1: of many parts Size %d, Top %d, Count %d", Size(x), Top(x), Count(x, -many))
	}
	vars := Vars(x)
	if len(vars) != many || !slices.IsSorted(vars) || vars[many-1] != many-1 {
		t.Errorf("P6.1: Vars of many parts tells %d", len(vars))
	}
	y, ok := Put(x, []int{many - 1}, symbol(0))
	if !ok || Compare(x, y) != -1 || Compare(y, x) != 1 || Same(x, y) || y.L[many-2].F != 1-many {
		t.Error("P6.1: terms that differ in the last of many parts are held wrongly")
	}
	expectNothing(t, symbol(1, list[:3]...), []int{many})
}

func TestVarsAreTheCallers(t *testing.T) {
	x := symbol(1, variable(2), variable(0))
	first := Vars(x)
	first[0], first[1] = 8, 9
	if again := Vars(x); !slices.Equal(again, []int{2, 0}) {
		t.Errorf("R4: Vars told again are %v", again)
	}
}

// read makes a term of bytes: each is a head and a number of parts.
func read(b []byte, depth int) (api.T, []byte) {
	if len(b) == 0 {
		return api.T{}, nil
	}
	head := int(b[0])
	t := api.T{F: head%8 - 4}
	b = b[1:]
	if depth > 0 {
		for range head / 8 % 4 {
			var part api.T
			part, b = read(b, depth-1)
			t.L = append(t.L, part)
		}
	}
	return t, b
}

func FuzzTerms(f *testing.F) {
	f.Add([]byte{}, []byte{4})
	f.Add([]byte{22, 3, 5}, []byte{30, 4, 1, 8, 7})
	f.Add([]byte{30, 22, 3, 2, 24, 5, 6, 7, 13, 1}, []byte{30, 22, 3, 2, 24, 5, 6, 7, 13, 2})
	f.Fuzz(func(t *testing.T, left, right []byte) {
		a, _ := read(left, 6)
		b, _ := read(right, 6)
		if Size(a) > 200 || Size(b) > 200 {
			t.Skip()
		}
		expectTerm(t, a)
		want := plainCompare(marks(a), marks(b))
		if got := Compare(a, b); got != want || Same(a, b) != (want == 0) {
			t.Errorf("P6.1: Compare(%v, %v) = %d, want %d", a, b, got, want)
		}
		for _, place := range Places(a) {
			expectPut(t, a, place, b)
		}
	})
}
