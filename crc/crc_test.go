package crc

import (
	"bytes"
	"hash/crc32"
	"math"
	"math/rand"
	"slices"
	"testing"

	"sorites/api"
)

// plainSum is the chapter's words one by one: a bit at a time, with an if.
func plainSum(b []byte) uint32 {
	sum := uint32(math.MaxUint32)
	for _, c := range b {
		for bit := range 8 {
			differ := sum&1 != uint32(c>>bit)&1
			sum /= 2
			if differ {
				sum ^= 3988292384
			}
		}
	}
	return math.MaxUint32 - sum
}

// samples are bytes of many lengths and kinds, the same ones in each run.
func samples() [][]byte {
	chance := rand.New(rand.NewSource(2))
	all := [][]byte{nil, {}, []byte("123456789"), bytes.Repeat([]byte{255}, 40), make([]byte, 40)}
	for size := range 70 {
		b := make([]byte, size)
		chance.Read(b)
		all = append(all, b)
	}
	large := make([]byte, 1<<16+3)
	chance.Read(large)
	return append(all, large)
}

func TestOfKnownBytes(t *testing.T) {
	known := []struct {
		b    []byte
		want uint32
	}{
		{nil, 0},
		{[]byte{}, 0},
		{[]byte("123456789"), 3421780262},
		{[]byte("a"), 3904355907},
		{[]byte{0}, 3523407757},
		{[]byte{255}, 4278190080},
		{[]byte{255, 255, 255, 255}, math.MaxUint32},
		{[]byte{0, 0, 0, 0}, 558161692},
		{[]byte("The quick brown fox jumps over the lazy dog"), 0x414fa339},
	}
	for _, k := range known {
		if got := Of(k.b); got != k.want {
			t.Errorf("P2.1: Of(%v) = %d, want %d", k.b, got, k.want)
		}
	}
}

func TestOfEachByte(t *testing.T) {
	for c := range 256 {
		b := []byte{byte(c)}
		if got, want := Of(b), plainSum(b); got != want {
			t.Errorf("P2.1: Of(%v) = %d, want %d", b, got, want)
		}
	}
}

func TestOfSamples(t *testing.T) {
	for _, b := range samples() {
		got := Of(b)
		if want := plainSum(b); got != want {
			t.Errorf("P2.1: Of(%d bytes) = %d, want %d", len(b), got, want)
		}
		if want := crc32.ChecksumIEEE(b); got != want {
			t.Errorf("P2.1: Of(%d bytes) = %d, the library's %d", len(b), got, want)
		}
	}
}

func TestMoreAtEachCut(t *testing.T) {
	for _, b := range samples() {
		step := 1 + len(b)/100
		for cut := 0; cut <= len(b); cut += step {
			if got, want := More(Of(b[:cut]), b[cut:]), Of(b); got != want {
				t.Errorf("P2.1: More at %d of %d bytes = %d, want %d", cut, len(b), got, want)
			}
		}
	}
}

func TestMoreByteByByte(t *testing.T) {
	b := []byte("123456789")
	sum := Of(nil)
	for i := range b {
		sum = More(sum, b[i:i+1])
	}
	if sum != 3421780262 {
		t.Errorf("P2.1: More byte by byte = %d", sum)
	}
}

func TestMoreEndsOfSums(t *testing.T) {
	for _, sum := range []uint32{0, 1, 1 << 31, math.MaxUint32 - 1, math.MaxUint32} {
		if got := More(sum, nil); got != sum {
			t.Errorf("P2.1: More(%d, nil) = %d", sum, got)
		}
		for _, b := range samples() {
			if got, want := More(sum, b), crc32.Update(sum, crc32.IEEETable, b); got != want {
				t.Errorf("P2.1: More(%d, %d bytes) = %d, want %d", sum, len(b), got, want)
			}
		}
	}
	// 0 is the sum of no bytes, 2^32 - 1 that of four of 255.
	ones := []byte{255, 255, 255, 255}
	b := []byte("behind")
	if got, want := More(0, b), Of(b); got != want {
		t.Errorf("P2.1: More(0, b) = %d, want %d", got, want)
	}
	if got, want := More(math.MaxUint32, b), Of(append(ones, b...)); got != want {
		t.Errorf("P2.1: More(2^32 - 1, b) = %d, want %d", got, want)
	}
}

func TestPutKnownBytes(t *testing.T) {
	known := []struct {
		b, want []byte
	}{
		{nil, []byte{0, 0, 0, 0}},
		{[]byte{}, []byte{0, 0, 0, 0}},
		{[]byte("a"), []byte{0x43, 0xbe, 0xb7, 0xe8, 'a'}},
		{[]byte("123456789"), append([]byte{0x26, 0x39, 0xf4, 0xcb}, "123456789"...)},
	}
	for _, k := range known {
		if got := Put(k.b); !bytes.Equal(got, k.want) {
			t.Errorf("P2.2: Put(%v) = %v, want %v", k.b, got, k.want)
		}
	}
}

func TestGetOfPut(t *testing.T) {
	for _, b := range samples() {
		with := Put(b)
		if len(with) != len(b)+4 {
			t.Errorf("P2.2: Put(%d bytes) has %d", len(b), len(with))
		}
		got, err := Get(with)
		if err != api.OK || !bytes.Equal(got, b) {
			t.Errorf("P2.2: Get(Put(%d bytes)): %d bytes, %d", len(b), len(got), err)
		}
	}
}

func TestGetTooFewBytes(t *testing.T) {
	for _, b := range [][]byte{nil, {}, {0}, {0, 0}, {0, 0, 0}, {255, 255, 255}} {
		if got, err := Get(b); err != api.End || len(got) != 0 {
			t.Errorf("P2.2: Get(%v) = %v, %d, want End", b, got, err)
		}
	}
}

func TestGetJustFourBytes(t *testing.T) {
	if got, err := Get([]byte{0, 0, 0, 0}); err != api.OK || len(got) != 0 {
		t.Errorf("P2.2: Get of the sum of nothing = %v, %d", got, err)
	}
	for _, b := range [][]byte{{1, 0, 0, 0}, {0, 0, 0, 1}, {0, 0, 0, 128}, {255, 255, 255, 255}} {
		if got, err := Get(b); err != api.Sum || len(got) != 0 {
			t.Errorf("P2.2: Get(%v) = %v, %d, want Sum", b, got, err)
		}
	}
}

func TestGetWrongSums(t *testing.T) {
	wrong := [][]byte{
		{0, 0, 0, 0, 'a'},
		{255, 255, 255, 255, 'a'},
		{0xe8, 0xb7, 0xbe, 0x43, 'a'}, // the highest byte first
		{'a', 0x43, 0xbe, 0xb7, 0xe8}, // the sum behind
		Put([]byte("ab"))[:5],
		append(Put([]byte("ab")), 0),
	}
	for _, b := range wrong {
		if got, err := Get(b); err != api.Sum || len(got) != 0 {
			t.Errorf("P2.2: Get(%v) = %v, %d, want Sum", b, got, err)
		}
	}
}

func TestGetOneBitTurned(t *testing.T) {
	for _, b := range samples() {
		if len(b) > 100 {
			continue
		}
		with := Put(b)
		for bit := range 8 * len(with) {
			turn(with, bit, 1, math.MaxUint32)
			if got, err := Get(with); err != api.Sum || len(got) != 0 {
				t.Errorf("P2.2: Get with bit %d of %d bytes turned = %v, %d, want Sum", bit, len(with), got, err)
			}
			turn(with, bit, 1, math.MaxUint32)
		}
	}
}

// turn turns those of count bits from a bit on that are set in which.
func turn(b []byte, from, count int, which uint32) {
	for i := range count {
		at := from + i
		b[at/8] ^= byte(which>>i&1) << (at % 8)
	}
}

func TestBitsSideBySide(t *testing.T) {
	for _, b := range samples() {
		if len(b) > 24 {
			continue
		}
		sum, with := Of(b), Put(b)
		for count := 1; count <= 32; count++ {
			for from := 0; from+count <= 8*len(b); from++ {
				turned := slices.Clone(b)
				turn(turned, from, count, math.MaxUint32)
				if Of(turned) == sum {
					t.Errorf("P2.3: %d bits from %d on of %d bytes: the same sum", count, from, len(b))
				}
				if _, err := Get(append(slices.Clone(with[:4]), turned...)); err != api.Sum {
					t.Errorf("P2.3: %d bits from %d on of %d bytes: Get tells %d", count, from, len(b), err)
				}
			}
		}
	}
}

func TestSomeOfBitsSideBySide(t *testing.T) {
	chance := rand.New(rand.NewSource(3))
	for _, b := range samples() {
		if len(b) < 4 {
			continue
		}
		sum := Of(b)
		for range 100 {
			which := chance.Uint32() | 1
			from := chance.Intn(8*len(b) - 31)
			turn(b, from, 32, which)
			if Of(b) == sum {
				t.Errorf("P2.3: bits %x from %d on of %d bytes: the same sum", which, from, len(b))
			}
			turn(b, from, 32, which)
		}
	}
}

// 33 bits may give the same sum: those that the sum is built with. A sum of
// which that isn't true is another one than the chapter's.
func TestThirtyThreeBitsMayStay(t *testing.T) {
	b := make([]byte, 8)
	sum := Of(b)
	turn(b, 0, 1, 1)
	turn(b, 1, 32, 3988292384)
	if Of(b) != sum {
		t.Errorf("P2.1: the sum isn't built with 3988292384")
	}
}

func TestNothingIsSharedOrChanged(t *testing.T) {
	b := append(make([]byte, 0, 64), "kept"...)
	before := slices.Clone(b[:cap(b)])
	with := Put(b)
	Of(b)
	More(7, b)
	if !bytes.Equal(b[:cap(b)], before) {
		t.Errorf("R4: the bytes handed in were changed: %v", b[:cap(b)])
	}
	clear(with)
	if string(b) != "kept" {
		t.Errorf("P2.2: Put shares memory with what it was given")
	}
	with = Put(b)
	held := slices.Clone(with)
	got, _ := Get(with)
	clear(got[:cap(got)])
	if !bytes.Equal(with, held) {
		t.Errorf("R4: Get shares memory with what it was given")
	}
	one, other := Put(b), Put(b)
	clear(one)
	if !bytes.Equal(other, held) {
		t.Errorf("P2.2: two answers of Put share memory")
	}
}

func FuzzGet(f *testing.F) {
	f.Add([]byte{})
	f.Add([]byte{0, 0, 0, 0})
	f.Add(Put([]byte("123456789")))
	f.Fuzz(func(t *testing.T, b []byte) {
		got, err := Get(b)
		switch err {
		case api.OK:
			if !bytes.Equal(Put(got), b) {
				t.Errorf("P2.2: Put(Get(%v)) = %v", b, Put(got))
			}
		case api.End:
			if len(b) >= 4 || len(got) != 0 {
				t.Errorf("P2.2: Get(%v) = %v, End", b, got)
			}
		case api.Sum:
			if len(b) < 4 || len(got) != 0 || bytes.Equal(Put(b[4:]), b) {
				t.Errorf("P2.2: Get(%v) = %v, Sum", b, got)
			}
		default:
			t.Errorf("P2.2: Get(%v) = %v, %d", b, got, err)
		}
	})
}
