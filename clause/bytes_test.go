package clause

import (
	"bytes"
	"encoding/binary"
	"math"
	"slices"
	"testing"

	"sorites/api"
	"sorites/code"
)

func plainTerm(b []byte, t api.T) []byte {
	b = binary.AppendVarint(b, int64(t.F))
	if t.F < 0 {
		return b
	}
	b = binary.AppendUvarint(b, uint64(len(t.L)))
	for _, part := range t.L {
		b = plainTerm(b, part)
	}
	return b
}

// plainPut is the chapter's words, by the library's numbers.
func plainPut(b []byte, c api.Clause) []byte {
	b = binary.AppendUvarint(slices.Clone(b), uint64(len(c)))
	for _, l := range c {
		if l.Neg {
			b = append(b, 1)
		} else {
			b = append(b, 0)
		}
		b = plainTerm(plainTerm(b, l.A), l.B)
	}
	return b
}

// plainReader reads numbers one behind the other, up to the first error.
type plainReader struct {
	b   []byte
	at  int
	err api.Err
}

func (r *plainReader) count(most uint64) int {
	if r.err != api.OK {
		return 0
	}
	n, next, err := code.Uint(r.b, r.at)
	if err == api.OK && n > most {
		err = api.Form
	}
	r.at, r.err = next, err
	return int(min(n, most))
}

func (r *plainReader) head() int {
	if r.err != api.OK {
		return 0
	}
	n, next, err := code.Int(r.b, r.at)
	if err == api.OK && (n < math.MinInt32 || n > math.MaxInt32) {
		err = api.Form
	}
	r.at, r.err = next, err
	return int(n)
}

// side reads a term by a stack of how many parts are still to come in each
// term, as the program doesn't, and tells its heads and numbers of parts.
func (r *plainReader) side(told []int) []int {
	left := []int{1}
	for r.err == api.OK && len(left) > 0 {
		top := len(left) - 1
		if left[top] == 0 {
			left = left[:top]
			continue
		}
		left[top]--
		if top > 256 {
			r.err = api.Form
			break
		}
		f := r.head()
		told = append(told, f)
		if r.err == api.OK && f >= 0 {
			parts := r.count(4096)
			told = append(told, parts)
			left = append(left, parts)
		}
	}
	return told
}

// plainGet tells a clause as numbers.
func plainGet(b []byte, at int) ([]int, int, api.Err) {
	r := plainReader{b: b, at: at}
	count := r.count(4096)
	told := []int{count}
	for n := 0; n < count && r.err == api.OK; n++ {
		told = append(told, r.count(1))
		told = r.side(told)
		told = r.side(told)
	}
	if r.err != api.OK {
		return nil, 0, r.err
	}
	return told, r.at, api.OK
}

// numbers tells a clause as plainGet does.
func numbers(c api.Clause) []int {
	told := []int{len(c)}
	visit := func(t api.T) {
		told = append(told, t.F)
		if t.F >= 0 {
			told = append(told, len(t.L))
		}
	}
	for _, l := range c {
		if l.Neg {
			told = append(told, 1)
		} else {
			told = append(told, 0)
		}
		walk(l.A, visit)
		walk(l.B, visit)
	}
	return told
}

// expectGet holds what is told of bytes of any kind.
func expectGet(t *testing.T, b []byte, at int) api.Err {
	t.Helper()
	was := slices.Clone(b)
	want, wantNext, wantErr := plainGet(b, at)
	got, next, err := Get(b, at)
	if err != wantErr || next != wantNext {
		t.Fatalf("P11.2: Get(%d bytes, %d) = %d, %d, want %d, %d", len(b), at, next, err, wantNext, wantErr)
	}
	if !bytes.Equal(b, was) {
		t.Fatalf("R4: %v became %v", was, b)
	}
	if err != api.OK {
		if len(got) != 0 {
			t.Fatalf("P11.2: Get(%d bytes, %d) with the error %d = %v", len(b), at, err, got)
		}
		return err
	}
	if !slices.Equal(numbers(got), want) {
		t.Fatalf("P11.2: Get(%d bytes, %d) = %v", len(b), at, numbers(got))
	}
	expectNew(t, "Get", got, nil)
	if put := Put(nil, got); !bytes.Equal(put, b[at:next]) {
		t.Fatalf("P11.3: what was got in %v is put as %v", b[at:next], put)
	}
	return api.OK
}

// expectError holds that an error comes with nothing else.
func expectError(t *testing.T, name string, b []byte, at int, want api.Err) {
	t.Helper()
	c, next, err := Get(b, at)
	if err != want || next != 0 || len(c) != 0 {
		t.Errorf("P11.2: %s: Get = %d literals, %d, %d, want error %d", name, len(c), next, err, want)
	}
}

// expectBytes puts a clause behind bytes, and gets it.
func expectBytes(t *testing.T, c api.Clause) {
	t.Helper()
	was := imageOf(c)
	for _, before := range [][]byte{nil, {}, {7}, {255, 128, 0}} {
		b := Put(before, c)
		if !bytes.Equal(b, plainPut(before, c)) {
			t.Fatalf("P11.2: Put(%v, %v) = %v", before, c, b)
		}
		for _, behind := range [][]byte{nil, {0}, {255}} {
			got, next, err := Get(slices.Concat(b, behind), len(before))
			if err != api.OK || next != len(b) {
				t.Fatalf("P11.3: Get of %v, put: %d, %d", c, next, err)
			}
			expectTold(t, "P11.3: Get of what was put", got, texts(c))
			if !Same(got, c) || len(got) != len(c) {
				t.Fatalf("P11.3: %v was put, and %v is got", c, got)
			}
		}
		expectGet(t, b, len(before))
	}
	unchanged(t, c, was)
}

func TestKnownBytes(t *testing.T) {
	known := []struct {
		name string
		c    api.Clause
		want []byte
	}{
		{"nil", nil, []byte{0}},
		{"no literals", api.Clause{}, []byte{0}},
		{"nothing in a literal", of(api.Lit{}), []byte{1, 0, 0, 0, 0, 0}},
		{"the chapter's example", of(eq(g(x(0)), c)), []byte{1, 0, 6, 1, 1, 2, 0}},
		{"Neg", of(ne(g(x(0)), c)), []byte{1, 1, 6, 1, 1, 2, 0}},
		{"two literals", of(eq(x(0), x(1)), ne(c, x(2))), []byte{2, 0, 1, 3, 1, 2, 0, 5}},
		{"some parts", of(eq(f(c, x(0), g(d)), d)), []byte{1, 0, 8, 3, 2, 0, 1, 6, 1, 4, 0, 4, 0}},
		{"sides stay as they stand", of(eq(c, d)), []byte{1, 0, 2, 0, 4, 0}},
		{"doubles stay", of(ne(c, d), ne(c, d)), []byte{2, 1, 2, 0, 4, 0, 1, 2, 0, 4, 0}},
		{"variables with parts", of(eq(loaded(0), f(loaded(4)))), []byte{1, 0, 1, 8, 1, 9}},
		{"numbers of more than one byte", of(eq(symbol(64), x(63)), ne(x(64), symbol(63))), []byte{2, 0, 128, 1, 0, 127, 1, 129, 1, 126, 0}},
		{"numbers at the ends of 32 bits", of(eq(symbol(math.MaxInt32), x(math.MaxInt32))), []byte{1, 0, 254, 255, 255, 255, 15, 0, 255, 255, 255, 255, 15}},
	}
	for _, k := range known {
		for _, before := range [][]byte{nil, {1, 2}} {
			if got := Put(before, k.c); !bytes.Equal(got, slices.Concat(before, k.want)) {
				t.Errorf("P11.2: %s: Put(%v) = %v, want %v", k.name, before, got, k.want)
			}
		}
		expectBytes(t, k.c)
	}
}

// TestPutBeyondWhatIsGot: Put tells no errors, whatever it is handed.
func TestPutBeyondWhatIsGot(t *testing.T) {
	for _, c := range []api.Clause{
		of(eq(symbol(math.MaxInt), x(math.MaxInt))),
		of(eq(symbol(math.MaxInt32+1), c)),
		of(eq(c, x(math.MaxInt32+1))),
		of(eq(chain(257, c), c)),
		of(eq(c, f(slices.Repeat([]api.T{c}, 4097)...))),
		slices.Repeat(of(ne(c, d)), 4097),
	} {
		b := Put([]byte{9}, c)
		if !bytes.Equal(b, plainPut([]byte{9}, c)) {
			t.Errorf("P11.2: Put of a clause of the weight %d", Weight(c))
		}
		expectError(t, "beyond", b, 1, api.Form)
	}
}

func TestPutIsNewMemory(t *testing.T) {
	for _, c := range []api.Clause{nil, of(ne(f(x(0), c), c))} {
		roomy := bytes.Repeat([]byte{9}, 64)
		before := roomy[:2]
		first := Put(before, c)
		want := plainPut([]byte{9, 9}, c)
		if !bytes.Equal(roomy, bytes.Repeat([]byte{9}, 64)) {
			t.Errorf("R4: Put wrote into what was handed in: %v", roomy)
		}
		for n := range roomy {
			roomy[n] = 8
		}
		if !bytes.Equal(first, want) {
			t.Error("R4: what Put tells shares memory with what was handed in")
		}
		second := Put(before, c)
		for n := range second[:cap(second)] {
			second[:cap(second)][n] = 7
		}
		if !bytes.Equal(first, want) || before[0] != 8 || before[1] != 8 {
			t.Error("R4: two answers of Put share memory")
		}
		behind := Put(first, c)
		for n := range behind {
			behind[n] = 6
		}
		if !bytes.Equal(first, want) {
			t.Error("R4: Put behind an answer of Put shares its memory")
		}
	}
}

func TestGetIsNewMemory(t *testing.T) {
	b := Put(nil, of(ne(f(x(0), c), c), eq(g(d), x(1))))
	first, _, _ := Get(b, 0)
	second, _, _ := Get(b, 0)
	want := texts(second)
	expectNew(t, "Get", first, second)
	for n := range b {
		b[n] = 0
	}
	if texts(first) != want || texts(second) != want {
		t.Errorf("R4: %v, got, shares memory with the bytes", first)
	}
}

// uints are numbers one behind the other.
func uints(list ...uint64) []byte {
	var b []byte
	for _, n := range list {
		b = binary.AppendUvarint(b, n)
	}
	return b
}

// head is a literal's sign and a number that F is, up to where its number of
// parts would stand.
func head(f int64) []byte { return binary.AppendVarint([]byte{1, 0}, f) }

// longNumber has more bytes than it takes.
var longNumber = []byte{129, 0}

func TestKnownErrors(t *testing.T) {
	literal := []byte{0, 2, 0, 2, 0}
	nine := bytes.Repeat([]byte{255}, 9)
	known := []struct {
		name string
		b    []byte
		at   int
		want api.Err
	}{
		{"below 0", []byte{0}, -1, api.Arg},
		{"far below 0", []byte{0}, math.MinInt, api.Arg},
		{"above the length", []byte{0}, 2, api.Arg},
		{"far above the length", []byte{0}, math.MaxInt, api.Arg},
		{"below 0 of nil", nil, -1, api.Arg},
		{"above nil", nil, 1, api.Arg},
		{"nil", nil, 0, api.End},
		{"no bytes", []byte{}, 0, api.End},
		{"at the length", []byte{0, 0}, 2, api.End},

		{"an unended number of literals", []byte{129}, 0, api.End},
		{"a long number of literals", longNumber, 0, api.Form},
		{"a number of literals above all", slices.Concat(nine, []byte{2}), 0, api.Form},
		{"4097 literals", uints(4097), 0, api.Form},
		{"4097 literals, that are there", slices.Concat(uints(4097), bytes.Repeat(literal, 4097)), 0, api.Form},
		{"2^32 literals", slices.Concat(uints(1<<32), literal), 0, api.Form},
		{"2^32 and one literals", slices.Concat(uints(1<<32+1), literal), 0, api.Form},
		{"2^63 literals", slices.Concat(uints(1<<63), literal), 0, api.Form},
		{"the most literals of a number", slices.Concat(uints(math.MaxUint64), literal), 0, api.Form},
		{"4096 literals, none there", uints(4096), 0, api.End},
		{"4096 literals, one there", slices.Concat(uints(4096), literal), 0, api.End},

		{"no sign", []byte{1}, 0, api.End},
		{"an unended sign", []byte{1, 129}, 0, api.End},
		{"a long sign", slices.Concat([]byte{1}, longNumber, []byte{2, 0, 2, 0}), 0, api.Form},
		{"a long sign 0", []byte{1, 128, 0, 2, 0, 2, 0}, 0, api.Form},
		{"a sign 2", []byte{1, 2, 2, 0, 2, 0}, 0, api.Form},
		{"a sign 2, and no more", []byte{1, 2}, 0, api.Form},
		{"a sign 3", []byte{1, 3, 2, 0, 2, 0}, 0, api.Form},
		{"a sign 127", []byte{1, 127, 2, 0, 2, 0}, 0, api.Form},
		{"a sign 256", []byte{1, 128, 2, 2, 0, 2, 0}, 0, api.Form},
		{"a sign 257", []byte{1, 129, 2, 2, 0, 2, 0}, 0, api.Form},
		{"a sign 2^32 and one", slices.Concat([]byte{1}, uints(1<<32+1), []byte{2, 0, 2, 0}), 0, api.Form},
		{"the greatest sign", slices.Concat([]byte{1}, uints(math.MaxUint64), []byte{2, 0, 2, 0}), 0, api.Form},
		{"a second sign 2", slices.Concat([]byte{2}, literal, []byte{2, 2, 0, 2, 0}), 0, api.Form},
		{"no second sign", slices.Concat([]byte{2}, literal), 0, api.End},

		{"no A", []byte{1, 0}, 0, api.End},
		{"an unended A", []byte{1, 0, 130}, 0, api.End},
		{"a long A", []byte{1, 0, 130, 0, 0, 2, 0}, 0, api.Form},
		{"an A above all", slices.Concat([]byte{1, 0}, nine, []byte{2, 0, 2, 0}), 0, api.Form},
		{"an A above 32 bits", slices.Concat(head(math.MaxInt32+1), []byte{0, 2, 0}), 0, api.Form},
		{"an A above 32 bits, and no more", head(math.MaxInt32 + 1), 0, api.Form},
		{"an A below 32 bits", slices.Concat(head(math.MinInt32-1), []byte{2, 0}), 0, api.Form},
		{"an A of 2^32", slices.Concat(head(1<<32), []byte{0, 2, 0}), 0, api.Form},
		{"an A of -2^32 and less", slices.Concat(head(-1<<32-1), []byte{2, 0}), 0, api.Form},
		{"the greatest A", slices.Concat(head(math.MaxInt64), []byte{0, 2, 0}), 0, api.Form},
		{"the least A", slices.Concat(head(math.MinInt64), []byte{2, 0}), 0, api.Form},
		{"no number of parts", []byte{1, 0, 2}, 0, api.End},
		{"an unended number of parts", []byte{1, 0, 2, 129}, 0, api.End},
		{"a long number of parts", []byte{1, 0, 2, 129, 0, 2, 0, 2, 0}, 0, api.Form},
		{"4097 parts", slices.Concat([]byte{1, 0, 2}, uints(4097)), 0, api.Form},
		{"4097 parts, that are there", slices.Concat([]byte{1, 0, 2}, uints(4097), bytes.Repeat([]byte{1}, 4098)), 0, api.Form},
		{"2^32 and one parts", slices.Concat([]byte{1, 0, 2}, uints(1<<32+1), []byte{1, 1}), 0, api.Form},
		{"the most parts of a number", slices.Concat([]byte{1, 0, 2}, uints(math.MaxUint64), []byte{1, 1}), 0, api.Form},
		{"4096 parts, none there", slices.Concat([]byte{1, 0, 2}, uints(4096)), 0, api.End},
		{"4096 parts, one fewer there", slices.Concat([]byte{1, 0, 2}, uints(4096), bytes.Repeat([]byte{1}, 4095)), 0, api.End},
		{"a part above 32 bits", slices.Concat([]byte{1, 0, 2, 1}, binary.AppendVarint(nil, math.MaxInt32+1), []byte{0, 2, 0}), 0, api.Form},
		{"a part with 4097 parts", slices.Concat([]byte{1, 0, 2, 1, 2}, uints(4097)), 0, api.Form},

		{"no B", []byte{1, 0, 1}, 0, api.End},
		{"an unended B", []byte{1, 0, 1, 130}, 0, api.End},
		{"a long B", []byte{1, 0, 1, 131, 0}, 0, api.Form},
		{"a B above 32 bits", binary.AppendVarint([]byte{1, 0, 1}, math.MaxInt32+1), 0, api.Form},
		{"a B below 32 bits", binary.AppendVarint([]byte{1, 0, 1}, math.MinInt32-1), 0, api.Form},
		{"a B with 4097 parts", slices.Concat([]byte{1, 0, 1, 2}, uints(4097)), 0, api.Form},
		{"a B without a number of parts", []byte{1, 0, 1, 2}, 0, api.End},

		{"a wrong sign ahead of the end", []byte{2, 7}, 0, api.Form},
		{"the end ahead of a wrong sign", []byte{2, 0, 1, 1}, 0, api.End},
		{"a wrong F ahead of a wrong sign", slices.Concat([]byte{2, 0}, binary.AppendVarint(nil, 1<<40), []byte{7}), 0, api.Form},
		{"behind other bytes", []byte{7, 7, 1, 2, 1, 1}, 2, api.Form},
		{"behind other bytes, the end", []byte{7, 7, 1, 1, 1}, 2, api.End},
	}
	for _, k := range known {
		expectError(t, k.name, k.b, k.at, k.want)
		if err := expectGet(t, k.b, k.at); err != k.want {
			t.Errorf("P11.2: %s: by the words %d, want %d", k.name, err, k.want)
		}
	}
}

// deepBytes is a literal with a side that goes down by the last of so many
// parts, each of the others without more.
func deepBytes(depth, parts int, left bool) []byte {
	b := []byte{1, 1}
	if !left {
		b = append(b, 1)
	}
	for range depth {
		b = append(b, 6, byte(parts))
		b = append(b, bytes.Repeat([]byte{1}, parts-1)...)
	}
	b = append(b, 1)
	if left {
		b = append(b, 1)
	}
	return b
}

func TestGetAtTheLimits(t *testing.T) {
	for _, left := range []bool{true, false} {
		for _, parts := range []int{1, 2, 5} {
			for _, depth := range []int{0, 1, 2, 255, 256} {
				if err := expectGet(t, deepBytes(depth, parts, left), 0); err != api.OK {
					t.Errorf("P11.2: parts in %d others: %d", depth, err)
				}
			}
			for _, depth := range []int{257, 258, 300, 1000} {
				expectError(t, "parts in too many others", deepBytes(depth, parts, left), 0, api.Form)
				expectGet(t, deepBytes(depth, parts, left), 0)
			}
		}
	}
	expectBytes(t, of(eq(chain(256, c), x(0)), ne(c, chain(256, x(7)))))
	expectBytes(t, of(eq(f(chain(255, c), chain(255, f())), chain(256, f()))))
	expectBytes(t, of(eq(symbol(math.MaxInt32), x(math.MaxInt32)), ne(x(math.MaxInt32), symbol(math.MaxInt32))))
	expectBytes(t, of(eq(f(slices.Repeat([]api.T{g(c)}, 4096)...), f(slices.Repeat([]api.T{loaded(3)}, 4096)...))))
	expectBytes(t, slices.Repeat(of(ne(c, x(5))), 4096))
	expectBytes(t, slices.Repeat(of(ne(c, x(5))), 4095))
	c, next, err := Get(slices.Concat(head(math.MinInt32), binary.AppendVarint(nil, math.MaxInt32), []byte{0}), 0)
	if err != api.OK || next != 13 || len(c) != 1 || c[0].A.F != math.MinInt32 || c[0].B.F != math.MaxInt32 {
		t.Errorf("P11.2: F at both ends of 32 bits: %v, %d, %d", c, next, err)
	}
}

// TestDeeperThanItMayBe: which error comes where bytes end at or ahead of a
// part that is in too many others.
func TestDeeperThanItMayBe(t *testing.T) {
	b := deepBytes(257, 1, true)
	// The sign is at 1, a side and its parts from 2 on, two bytes each.
	number := 2 + 2*256
	expectError(t, "ahead of the number of parts", b[:number+1], 0, api.End)
	expectError(t, "behind the number of parts", b[:number+2], 0, api.Form)
	b[number+1] = 0
	if c, next, err := Get(append(b[:number+2], 1), 0); len(c) != 1 || next != number+3 || err != api.OK {
		t.Errorf("P11.2: no parts, in 256 others: %d, %d", next, err)
	}
}

// TestEveryCut: bytes that end ahead of a clause's last one are End, whatever
// lies behind them in memory.
func TestEveryCut(t *testing.T) {
	for _, c := range []api.Clause{
		nil,
		of(ne(f(x(0), g(c)), x(100)), eq(symbol(100, c), d)),
		of(eq(x(0), x(1)), ne(p(), truth), eq(f(c, f(c, f(c, x(1000)))), x(5))),
		of(eq(symbol(math.MaxInt32), x(math.MaxInt32))),
		slices.Repeat(of(ne(g(x(5)), c)), 200),
	} {
		b := Put([]byte{3}, c)
		for cut := 1; cut < len(b); cut++ {
			expectError(t, "a cut", b[:cut], 1, api.End)
			expectGet(t, slices.Clip(b[:cut]), 1)
		}
		expectError(t, "a cut ahead of it", nil, 1, api.Arg)
		if _, next, err := Get(b, 1); next != len(b) || err != api.OK {
			t.Errorf("P11.2: bytes that end just behind: %d, %d", next, err)
		}
	}
}

// TestEveryPlace asks at each place of bytes in which several clauses stand.
func TestEveryPlace(t *testing.T) {
	clauses := []api.Clause{of(eq(x(0), c)), nil, of(ne(f(c, d), c), eq(d, x(3)))}
	var b []byte
	var ends []int
	for _, c := range clauses {
		b = Put(b, c)
		ends = append(ends, len(b))
	}
	at := 0
	for n, c := range clauses {
		got, next, err := Get(b, at)
		if err != api.OK || next != ends[n] || !Same(got, c) {
			t.Errorf("P11.2: Get at %d = %v, %d, %d", at, got, next, err)
		}
		at = next
	}
	for at := -3; at < len(b)+3; at++ {
		expectGet(t, b, at)
	}
}

func TestEverySmallClauseIsPutAndGot(t *testing.T) {
	for _, c := range smallClauses() {
		expectBytes(t, c)
	}
}

// TestShortBytesOfAnyKind goes through all of a few numbers, and through each
// byte of a clause's bytes turned into each other one.
func TestShortBytesOfAnyKind(t *testing.T) {
	for length := range 8 {
		for _, b := range lists(length, []byte{0, 1, 2, 3, 129}) {
			expectGet(t, b, 0)
		}
	}
	b := Put(nil, of(ne(f(x(0), g(c)), x(100)), eq(symbol(100, c), d)))
	for n := range b {
		was := b[n]
		for other := range 256 {
			b[n] = byte(other)
			expectGet(t, b, 0)
		}
		b[n] = was
	}
}

// TestManyBytes has so many that to copy all of them for each number would take
// long.
func TestManyBytes(t *testing.T) {
	row := f(slices.Repeat([]api.T{x(0), c}, 2048)...)
	rows := slices.Repeat(of(eq(row, row)), 200)
	b := Put(bytes.Repeat([]byte{9}, 1<<20), rows)
	got, next, err := Get(b, 1<<20)
	if err != api.OK || next != len(b) || !Same(got, rows) {
		t.Errorf("P11.3: Get of %d literals, put: %d, %d, %d", len(rows), len(got), next, err)
	}
	// A term of many parts, each of them of many, and no bytes for them.
	b = []byte{1, 0}
	for range 256 {
		b = append(b, 2, 128, 32)
	}
	expectError(t, "many parts that aren't there", b, 0, api.End)
	expectError(t, "many bytes without a last one", append([]byte{1, 0}, bytes.Repeat([]byte{255}, 1<<20)...), 0, api.End)
}

func FuzzGet(f *testing.F) {
	f.Add([]byte{0}, 0)
	f.Add([]byte{1, 1, 6, 1, 1, 2, 0}, 0)
	f.Add([]byte{9, 2, 0, 1, 3, 1, 2, 0, 5}, 1)
	f.Add([]byte{1, 2, 2, 0, 2, 0}, 0)
	f.Add(deepBytes(257, 1, true), 0)
	f.Add(slices.Concat([]byte{1, 0, 2}, uints(4097)), 0)
	f.Add(head(math.MaxInt32+1), 0)
	f.Fuzz(func(t *testing.T, b []byte, at int) {
		expectGet(t, b, at)
		expectGet(t, b, 0)
	})
}
