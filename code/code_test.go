package code

import (
	"bytes"
	"math"
	"slices"
	"strings"
	"testing"

	"sorites/api"
)

// filled is count bytes of one kind, with others behind.
func filled(count int, c byte, behind ...byte) []byte {
	return append(bytes.Repeat([]byte{c}, count), behind...)
}

var uintBytes = []struct {
	n    uint64
	want []byte
}{
	{0, []byte{0}},
	{1, []byte{1}},
	{127, []byte{127}},
	{128, []byte{128, 1}},
	{129, []byte{129, 1}},
	{255, []byte{255, 1}},
	{300, []byte{172, 2}},
	{1<<14 - 1, []byte{255, 127}},
	{1 << 14, []byte{128, 128, 1}},
	{1<<32 - 1, []byte{255, 255, 255, 255, 15}},
	{1<<63 - 1, filled(8, 255, 127)},
	{1 << 63, filled(9, 128, 1)},
	{math.MaxUint64, filled(9, 255, 1)},
}

var intBytes = []struct {
	n    int64
	want []byte
}{
	{0, []byte{0}},
	{-1, []byte{1}},
	{1, []byte{2}},
	{-2, []byte{3}},
	{63, []byte{126}},
	{-64, []byte{127}},
	{64, []byte{128, 1}},
	{-65, []byte{129, 1}},
	{150, []byte{172, 2}},
	{math.MaxInt64, filled(1, 254, filled(8, 255, 1)...)},
	{math.MinInt64, filled(9, 255, 1)},
}

var textBytes = []struct {
	s    string
	want []byte
}{
	{"", []byte{0}},
	{"a", []byte{1, 'a'}},
	{"hi", []byte{2, 'h', 'i'}},
	{"\x00\xff\x80", []byte{3, 0, 255, 128}},
	{"ä", []byte{2, 0xc3, 0xa4}},
	{strings.Repeat("x", 127), filled(1, 127, filled(127, 'x')...)},
	{strings.Repeat("x", 128), append([]byte{128, 1}, filled(128, 'x')...)},
	{strings.Repeat("x", 300), append([]byte{172, 2}, filled(300, 'x')...)},
}

// befores are what stands ahead of what is put: nothing, some bytes, and
// bytes that look like the beginning of a number.
var befores = [][]byte{nil, {}, {7}, {1, 2, 3}, {255, 128, 0}}

func TestPutUint(t *testing.T) {
	for _, x := range uintBytes {
		for _, before := range befores {
			want := slices.Concat(before, x.want)
			if got := PutUint(before, x.n); !bytes.Equal(got, want) {
				t.Errorf("P1.1: PutUint(%v, %d): %v, not %v", before, x.n, got, want)
			}
		}
	}
}

func TestPutInt(t *testing.T) {
	for _, x := range intBytes {
		for _, before := range befores {
			want := slices.Concat(before, x.want)
			if got := PutInt(before, x.n); !bytes.Equal(got, want) {
				t.Errorf("P1.1: PutInt(%v, %d): %v, not %v", before, x.n, got, want)
			}
		}
	}
}

func TestPutText(t *testing.T) {
	for _, x := range textBytes {
		for _, before := range befores {
			want := slices.Concat(before, x.want)
			if got := PutText(before, x.s); !bytes.Equal(got, want) {
				t.Errorf("P1.1: PutText(%v, %q): %v, not %v", before, x.s, got, want)
			}
		}
	}
}

func TestLen(t *testing.T) {
	for _, x := range uintBytes {
		if got := Len(x.n); got != len(x.want) {
			t.Errorf("P1.1: Len(%d): %d, not %d", x.n, got, len(x.want))
		}
	}
	for count := 1; count < 10; count++ {
		first := uint64(1) << (7 * count)
		if a, b := Len(first-1), Len(first); a != count || b != count+1 {
			t.Errorf("P1.1: Len around 2^%d: %d and %d", 7*count, a, b)
		}
	}
}

// puts are the calls that put something behind bytes.
var puts = []struct {
	name string
	put  func([]byte) []byte
}{
	{"PutUint", func(b []byte) []byte { return PutUint(b, 300) }},
	{"PutInt", func(b []byte) []byte { return PutInt(b, -300) }},
	{"PutText", func(b []byte) []byte { return PutText(b, "text") }},
	{"PutText of nothing", func(b []byte) []byte { return PutText(b, "") }},
}

func TestPutIsNewMemory(t *testing.T) {
	for _, x := range puts {
		roomy := filled(64, 9)
		before := roomy[:2]
		first := x.put(before)
		want := slices.Clone(first)
		if !bytes.Equal(roomy, filled(64, 9)) {
			t.Errorf("P1.1: %s wrote into what was handed in: %v", x.name, roomy)
		}
		for i := range roomy {
			roomy[i] = 8
		}
		if !bytes.Equal(first, want) {
			t.Errorf("P1.1: %s: the answer shares memory with what was handed in", x.name)
		}
		second := x.put(before)
		for i := range second {
			second[i] = 7
		}
		if !bytes.Equal(first, want) || before[0] != 8 || before[1] != 8 {
			t.Errorf("P1.1: %s: two answers share memory", x.name)
		}
	}
}

// behinds are what stands behind what is read; it must not matter.
var behinds = [][]byte{nil, {0}, {5, 6}, {255}, {128, 0}}

func TestUint(t *testing.T) {
	for _, x := range uintBytes {
		for _, before := range befores {
			for _, behind := range behinds {
				b := slices.Concat(before, x.want, behind)
				n, next, err := Uint(b, len(before))
				if n != x.n || next != len(before)+len(x.want) || err != api.OK {
					t.Errorf("P1.2: Uint(%v, %d): %d, %d, %v", b, len(before), n, next, err)
				}
			}
		}
	}
}

func TestInt(t *testing.T) {
	for _, x := range intBytes {
		for _, before := range befores {
			for _, behind := range behinds {
				b := slices.Concat(before, x.want, behind)
				n, next, err := Int(b, len(before))
				if n != x.n || next != len(before)+len(x.want) || err != api.OK {
					t.Errorf("P1.2: Int(%v, %d): %d, %d, %v", b, len(before), n, next, err)
				}
			}
		}
	}
}

func TestText(t *testing.T) {
	for _, x := range textBytes {
		for _, before := range befores {
			for _, behind := range behinds {
				b := slices.Concat(before, x.want, behind)
				s, next, err := Text(b, len(before))
				if s != x.s || next != len(before)+len(x.want) || err != api.OK {
					t.Errorf("P1.2: Text(%v, %d): %q, %d, %v", b, len(before), s, next, err)
				}
			}
		}
	}
}

// badNumbers are wrong for all three calls that read.
var badNumbers = []struct {
	name string
	b    []byte
	at   int
	want api.Err
}{
	{"below 0", []byte{1}, -1, api.Arg},
	{"far below 0", []byte{1}, math.MinInt, api.Arg},
	{"above the length", []byte{1}, 2, api.Arg},
	{"far above the length", []byte{1}, math.MaxInt, api.Arg},
	{"below 0 of nil", nil, -1, api.Arg},
	{"above nil", nil, 1, api.Arg},
	{"above unended bytes", []byte{128}, 2, api.Arg},
	{"nil", nil, 0, api.End},
	{"no bytes", []byte{}, 0, api.End},
	{"at the length", []byte{1, 2}, 2, api.End},
	{"one unended byte", []byte{128}, 0, api.End},
	{"unended bytes behind others", []byte{1, 128, 255}, 1, api.End},
	{"nine unended bytes", filled(9, 255), 0, api.End},
	{"ten unended bytes", filled(10, 255), 0, api.End},
	{"ten unended bytes without bits", filled(10, 128), 0, api.End},
	{"eleven unended bytes", filled(11, 255), 0, api.End},
	{"a thousand unended bytes", filled(1000, 128), 0, api.End},
	{"eleven bytes", filled(10, 128, 1), 0, api.Form},
	{"eleven bytes that end in 0", filled(10, 128, 0), 0, api.Form},
	{"eleven full bytes", filled(10, 255, 127), 0, api.Form},
	{"twelve bytes", filled(11, 255, 1), 0, api.Form},
	{"a thousand bytes", filled(1000, 128, 1, 5), 0, api.Form},
	{"a tenth byte 2", filled(9, 255, 2), 0, api.Form},
	{"a tenth byte 2 with nothing below", filled(9, 128, 2), 0, api.Form},
	{"a tenth byte 127", filled(9, 128, 127), 0, api.Form},
	{"a tenth byte 0", filled(9, 255, 0), 0, api.Form},
	{"a second byte 0", []byte{128, 0}, 0, api.Form},
	{"a second byte 0 with bits below", []byte{133, 0, 'h', 'e', 'l', 'l', 'o'}, 0, api.Form},
	{"a third byte 0 behind others", []byte{0, 129, 129, 0, 7}, 1, api.Form},
}

func TestBadNumbers(t *testing.T) {
	for _, x := range badNumbers {
		if n, next, err := Uint(x.b, x.at); n != 0 || next != 0 || err != x.want {
			t.Errorf("P1.2: Uint, %s: %d, %d, %v, not %v", x.name, n, next, err, x.want)
		}
		if n, next, err := Int(x.b, x.at); n != 0 || next != 0 || err != x.want {
			t.Errorf("P1.2: Int, %s: %d, %d, %v, not %v", x.name, n, next, err, x.want)
		}
		if s, next, err := Text(x.b, x.at); s != "" || next != 0 || err != x.want {
			t.Errorf("P1.2: Text, %s: %q, %d, %v, not %v", x.name, s, next, err, x.want)
		}
	}
}

func TestTextLongerThanWhatIsLeft(t *testing.T) {
	for i, x := range []struct {
		b  []byte
		at int
	}{
		{[]byte{1}, 0},
		{[]byte{2, 'h'}, 0},
		{[]byte{9, 9, 3, 'h', 'i'}, 2},
		{append([]byte{128, 1}, filled(127, 'x')...), 0},
		{PutUint(nil, math.MaxInt64), 0},
		{PutUint(nil, 1<<63), 0},
		{append(PutUint(nil, math.MaxUint64), "text"...), 0},
		{append(PutUint([]byte{4}, math.MaxUint64-1), "text"...), 1},
	} {
		if s, next, err := Text(x.b, x.at); s != "" || next != 0 || err != api.End {
			t.Errorf("P1.2: Text %d: %q, %d, %v", i, s, next, err)
		}
	}
}

// A length in wrong bytes is no length, so no text stands there to be too long.
func TestTextOfNoLengthIsForm(t *testing.T) {
	if s, next, err := Text([]byte{133, 0, 'h'}, 0); s != "" || next != 0 || err != api.Form {
		t.Errorf("P1.2: Text: %q, %d, %v", s, next, err)
	}
}

func TestReadingLeavesBytes(t *testing.T) {
	b := []byte{172, 2, 3, 'a', 'b', 'c', 128, 0}
	want := slices.Clone(b)
	for at := -1; at <= len(b)+1; at++ {
		Uint(b, at)
		Int(b, at)
		Text(b, at)
	}
	if !bytes.Equal(b, want) {
		t.Errorf("R4: what was handed in changed: %v", b)
	}
	s, _, _ := Text(b, 2)
	b[3] = 'x'
	if s != "abc" {
		t.Errorf("P1.2: the text shares memory with the bytes: %q", s)
	}
}

// spread are numbers of every length, with all bits of many kinds.
func spread() []uint64 {
	var list []uint64
	for shift := range 64 {
		n := uint64(1) << shift
		list = append(list, n-1, n, n+1, ^n, -n, n*0x9e3779b97f4a7c15)
	}
	return list
}

func TestWhatIsPutIsRead(t *testing.T) {
	for _, n := range spread() {
		b := PutUint([]byte{200}, n)
		if got, next, err := Uint(b, 1); got != n || next != len(b) || err != api.OK {
			t.Errorf("P1.3: Uint of %d put: %d, %d, %v", n, got, next, err)
		}
		if len(b) != 1+Len(n) {
			t.Errorf("P1.1: Len(%d): %d of %v", n, Len(n), b[1:])
		}
		b = PutInt([]byte{200}, int64(n))
		if got, next, err := Int(b, 1); got != int64(n) || next != len(b) || err != api.OK {
			t.Errorf("P1.3: Int of %d put: %d, %d, %v", int64(n), got, next, err)
		}
		s := strings.Repeat(string(PutUint(nil, n)), int(n%40))
		b = PutText([]byte{200}, s)
		if got, next, err := Text(b, 1); got != s || next != len(b) || err != api.OK {
			t.Errorf("P1.3: Text of %q put: %q, %d, %v", s, got, next, err)
		}
	}
}

func TestOneBehindTheOther(t *testing.T) {
	b := PutText(PutInt(PutUint(nil, 300), -65), "hi")
	n, at, err := Uint(b, 0)
	if n != 300 || err != api.OK {
		t.Errorf("P1.3: Uint: %d, %v", n, err)
	}
	i, at, err := Int(b, at)
	if i != -65 || err != api.OK {
		t.Errorf("P1.3: Int: %d, %v", i, err)
	}
	s, at, err := Text(b, at)
	if s != "hi" || at != len(b) || err != api.OK {
		t.Errorf("P1.3: Text: %q, %d, %v", s, at, err)
	}
}

// checkPutBack puts again whatever can be read at the beginning of b.
func checkPutBack(t *testing.T, b []byte) {
	t.Helper()
	n, next, err := Uint(b, 0)
	if err == api.OK && !bytes.Equal(PutUint(nil, n), b[:next]) {
		t.Errorf("P1.3: PutUint of what was read in %v: %v", b, PutUint(nil, n))
	}
	i, next, err := Int(b, 0)
	if err == api.OK && !bytes.Equal(PutInt(nil, i), b[:next]) {
		t.Errorf("P1.3: PutInt of what was read in %v: %v", b, PutInt(nil, i))
	}
	s, next, err := Text(b, 0)
	if err == api.OK && !bytes.Equal(PutText(nil, s), b[:next]) {
		t.Errorf("P1.3: PutText of what was read in %v: %v", b, PutText(nil, s))
	}
}

func TestWhatIsReadIsPutTheSame(t *testing.T) {
	for a := range 256 {
		for b := range 256 {
			checkPutBack(t, []byte{byte(a), byte(b)})
		}
	}
	edges := []byte{0, 1, 2, 126, 127, 128, 129, 254, 255}
	for count := range 12 {
		for _, below := range edges {
			for _, high := range edges {
				for _, last := range edges {
					checkPutBack(t, filled(count, below, high, last, 0, 'x'))
				}
			}
		}
	}
}

func FuzzPutBack(f *testing.F) {
	for _, x := range badNumbers {
		f.Add(x.b)
	}
	f.Fuzz(checkPutBack)
}
