package frame

import (
	"bytes"
	"encoding/binary"
	"hash/crc32"
	"math"
	"math/rand"
	"slices"
	"testing"

	"sorites/api"
)

// plainFrame is the chapter's words, by the library's numbers and sums.
func plainFrame(record []byte) []byte {
	number := binary.AppendUvarint(nil, uint64(len(record)))
	sum := crc32.ChecksumIEEE(append(slices.Clone(number), record...))
	return append(binary.LittleEndian.AppendUint32(number, sum), record...)
}

// sizes are the edges of how many bytes a length has, and those of records.
func sizes() []int {
	return []int{0, 1, 2, 3, 4, 5, 126, 127, 128, 129, 255, 256, 1<<14 - 1, 1 << 14, 1<<14 + 1, 1<<16 - 1, 1 << 16}
}

// recordOf has bytes of any kind, the same ones in each run.
func recordOf(size int) []byte {
	record := make([]byte, size)
	rand.New(rand.NewSource(int64(size))).Read(record)
	return record
}

func mustPut(t *testing.T, b, record []byte) []byte {
	t.Helper()
	got, err := Put(b, record)
	if err != api.OK {
		t.Fatalf("P4.1: Put of %d bytes tells %d", len(record), err)
	}
	return got
}

// line has the frames of records one behind the other, and the places behind
// each of them.
func line(t *testing.T, records [][]byte) ([]byte, []int) {
	t.Helper()
	var b []byte
	var ends []int
	for _, record := range records {
		b = mustPut(t, b, record)
		ends = append(ends, len(b))
	}
	return b, ends
}

// expectGet holds that an error comes with nothing else.
func expectGet(t *testing.T, b []byte, at int, want api.Err) {
	t.Helper()
	record, next, err := Get(b, at)
	if err != want || len(record) != 0 || next != 0 {
		t.Errorf("P4.1: Get(%d bytes, %d) = %d bytes, %d, %d, want error %d", len(b), at, len(record), next, err, want)
	}
}

func expectAll(t *testing.T, promise string, b []byte, records [][]byte, end int) {
	t.Helper()
	got, place := All(b)
	if place != end || !slices.EqualFunc(got, records, bytes.Equal) {
		t.Errorf("%s: All(%d bytes) = %d records, %d, want %d, %d", promise, len(b), len(got), place, len(records), end)
	}
}

func TestPutKnownRecords(t *testing.T) {
	known := []struct {
		b, record, want []byte
	}{
		{nil, nil, []byte{0, 0x8d, 0xef, 0x02, 0xd2}},
		{[]byte{}, []byte{}, []byte{0, 0x8d, 0xef, 0x02, 0xd2}},
		{[]byte{9, 8}, nil, []byte{9, 8, 0, 0x8d, 0xef, 0x02, 0xd2}},
		{nil, []byte("one"), plainFrame([]byte("one"))},
		{[]byte("ahead"), []byte("one"), append([]byte("ahead"), plainFrame([]byte("one"))...)},
	}
	for _, k := range known {
		got, err := Put(k.b, k.record)
		if err != api.OK || !bytes.Equal(got, k.want) {
			t.Errorf("P4.1: Put(%v, %v) = %v, %d, want %v", k.b, k.record, got, err, k.want)
		}
	}
}

// The chapter's example.
func TestFrameOfAnEmptyRecord(t *testing.T) {
	frame := mustPut(t, nil, nil)
	if len(frame) != 5 || Size(0) != 5 {
		t.Errorf("P4.1: the frame of an empty record: %v, Size %d", frame, Size(0))
	}
	record, next, err := Get(frame, 0)
	if len(record) != 0 || next != 5 || err != api.OK {
		t.Errorf("P4.1: Get of an empty record = %v, %d, %d", record, next, err)
	}
	expectAll(t, "P4.2", frame, [][]byte{{}}, 5)
}

func TestEachSizeIsPutAndGot(t *testing.T) {
	for _, size := range sizes() {
		record := recordOf(size)
		frame := mustPut(t, nil, record)
		if !bytes.Equal(frame, plainFrame(record)) {
			t.Errorf("P4.1: Put of %d bytes is another frame", size)
		}
		if len(frame) != Size(size) {
			t.Errorf("P4.1: Size(%d) = %d, the frame has %d", size, Size(size), len(frame))
		}
		for _, ahead := range []int{0, 1, 200} {
			b := append(mustPut(t, recordOf(ahead), record), "behind"...)
			got, next, err := Get(b, ahead)
			if err != api.OK || next != ahead+len(frame) || !bytes.Equal(got, record) {
				t.Errorf("P4.1: Get of %d bytes at %d = %d bytes, %d, %d", size, ahead, len(got), next, err)
			}
		}
		expectAll(t, "P4.2", frame, [][]byte{record}, len(frame))
	}
}

func TestPutLarge(t *testing.T) {
	for _, size := range []int{1<<16 + 1, 1<<16 + 2, 1 << 17, 1 << 20} {
		for _, b := range [][]byte{nil, {1, 2, 3}} {
			got, err := Put(b, make([]byte, size))
			if err != api.Large || len(got) != 0 {
				t.Errorf("P4.1: Put of %d bytes = %d bytes, %d, want Large", size, len(got), err)
			}
		}
	}
}

func TestPutBehindManyBytes(t *testing.T) {
	b := recordOf(1 << 18)
	got := mustPut(t, b, []byte("x"))
	if !bytes.Equal(got, append(slices.Clone(b), plainFrame([]byte("x"))...)) {
		t.Errorf("P4.1: Put behind %d bytes", len(b))
	}
}

func TestSize(t *testing.T) {
	known := []struct{ n, want int }{
		{math.MinInt, 0},
		{-1 << 32, 0},
		{-2, 0},
		{-1, 0},
		{0, 5},
		{1, 6},
		{127, 132},
		{128, 134},
		{200, 206},
		{1<<14 - 1, 1<<14 + 5},
		{1 << 14, 1<<14 + 7},
		{1<<16 - 1, 1<<16 + 6},
		{1 << 16, 1<<16 + 7},
		{1<<16 + 1, 0},
		{1 << 32, 0},
		{math.MaxInt - 1, 0},
		{math.MaxInt, 0},
	}
	for _, k := range known {
		if got := Size(k.n); got != k.want {
			t.Errorf("P4.1: Size(%d) = %d, want %d", k.n, got, k.want)
		}
	}
}

func TestGetPlaces(t *testing.T) {
	records := [][]byte{[]byte("one"), {}, []byte("three")}
	b, ends := line(t, records)
	at := 0
	for i, record := range records {
		got, next, err := Get(b, at)
		if err != api.OK || next != ends[i] || !bytes.Equal(got, record) {
			t.Errorf("P4.1: Get at %d = %q, %d, %d", at, got, next, err)
		}
		at = next
	}
	for _, place := range []int{-1, -2, math.MinInt, len(b) + 1, len(b) + 2, math.MaxInt} {
		expectGet(t, b, place, api.Arg)
	}
	expectGet(t, b, len(b), api.End)
	// The last byte of three is a number, 101, with nothing behind it.
	expectGet(t, b, len(b)-1, api.End)
}

func TestGetOfNoBytes(t *testing.T) {
	for _, b := range [][]byte{nil, {}} {
		expectGet(t, b, -1, api.Arg)
		expectGet(t, b, 0, api.End)
		expectGet(t, b, 1, api.Arg)
		expectGet(t, b, math.MaxInt, api.Arg)
		expectGet(t, b, math.MinInt, api.Arg)
		expectAll(t, "P4.2", b, nil, 0)
	}
}

func TestGetWithinTheFrame(t *testing.T) {
	for _, size := range []int{0, 1, 3, 127, 128, 1 << 14} {
		frame := mustPut(t, nil, recordOf(size))
		step := 1 + len(frame)/500
		for cut := 0; cut < len(frame); cut += step {
			expectGet(t, frame[:cut], 0, api.End)
			// A capacity that goes on behind must not be read.
			expectGet(t, slices.Clip(frame[:cut]), 0, api.End)
		}
		expectGet(t, frame[:len(frame)-1], 0, api.End)
		if _, next, err := Get(frame, 0); err != api.OK || next != len(frame) {
			t.Errorf("P4.1: Get of bytes that end just behind the record: %d, %d", next, err)
		}
	}
}

// Each of these has a length that is wrong in some way; what stands behind it
// would do.
func TestGetWrongLengths(t *testing.T) {
	rest := make([]byte, 1<<16+40)
	wrong := []struct {
		number []byte
		rest   []byte
		want   api.Err
	}{
		{[]byte{128}, nil, api.End},
		{[]byte{255, 255, 255}, nil, api.End},
		{bytes.Repeat([]byte{128}, 30), nil, api.End},
		{[]byte{128, 0}, rest, api.Form},
		{[]byte{131, 0}, rest, api.Form},
		{[]byte{128, 128, 0}, rest, api.Form},
		{append(bytes.Repeat([]byte{255}, 9), 2), rest, api.Form},
		{append(bytes.Repeat([]byte{255}, 10), 1), rest, api.Form},
		{append(bytes.Repeat([]byte{128}, 9), 0), rest, api.Form},
		{binary.AppendUvarint(nil, 1<<16), rest, api.Sum},
		{binary.AppendUvarint(nil, 1<<16+1), rest, api.Large},
		{binary.AppendUvarint(nil, 1<<31), rest, api.Large},
		{binary.AppendUvarint(nil, 1<<32), rest, api.Large},
		{binary.AppendUvarint(nil, 1<<63), rest, api.Large},
		{binary.AppendUvarint(nil, math.MaxInt64), rest, api.Large},
		{binary.AppendUvarint(nil, math.MaxUint64), rest, api.Large},
		{binary.AppendUvarint(nil, math.MaxUint64-3), rest, api.Large},
	}
	for _, w := range wrong {
		b := slices.Concat(w.number, w.rest)
		expectGet(t, b, 0, w.want)
		expectAll(t, "P4.2", b, nil, 0)
		frame := plainFrame([]byte("ok"))
		expectGet(t, slices.Concat(frame, b), len(frame), w.want)
		expectAll(t, "P4.2", slices.Concat(frame, b), [][]byte{[]byte("ok")}, len(frame))
	}
}

// Of a length above 2^16 with its true sum it is the length alone that is wrong.
func TestGetLargeWithItsSum(t *testing.T) {
	for _, size := range []int{1<<16 + 1, 1 << 17} {
		b := plainFrame(recordOf(size))
		expectGet(t, b, 0, api.Large)
		expectAll(t, "P4.2", b, nil, 0)
	}
}

func TestGetFirstErrorIsTold(t *testing.T) {
	large := binary.AppendUvarint(nil, 1<<16+1)
	torn := mustPut(t, nil, []byte("three"))
	torn[1]++ // its sum is wrong too
	cases := []struct {
		b    []byte
		at   int
		want api.Err
	}{
		{[]byte{128, 0}, -1, api.Arg},                           // ahead of Form
		{[]byte{128}, 2, api.Arg},                               // ahead of End
		{large, -1, api.Arg},                                    // ahead of Large
		{torn, -1, api.Arg},                                     // ahead of Sum
		{torn, len(torn) + 1, api.Arg},                          // ahead of End
		{bytes.Repeat([]byte{255}, 20), 0, api.End},             // ahead of Form
		{append(bytes.Repeat([]byte{255}, 9), 2), 0, api.Form},  // ahead of Large
		{append(bytes.Repeat([]byte{255}, 12), 1), 0, api.Form}, // ahead of Large and End
		{[]byte{131, 0, 1}, 0, api.Form},                        // ahead of End
		{large, 0, api.Large},                                   // ahead of End
		{append(slices.Clone(large), 1, 2), 0, api.Large},       // ahead of End
		{torn[:len(torn)-1], 0, api.End},                        // ahead of Sum
		{torn[:3], 0, api.End},                                  // ahead of Sum
		{torn, 0, api.Sum},
	}
	for _, c := range cases {
		expectGet(t, c.b, c.at, c.want)
	}
}

func TestGetWrongSums(t *testing.T) {
	record := []byte("record")
	number := []byte{6}
	sumOf := func(b []byte) []byte { return binary.LittleEndian.AppendUint32(nil, crc32.ChecksumIEEE(b)) }
	right := sumOf(slices.Concat(number, record))
	reversed := slices.Clone(right)
	slices.Reverse(reversed)
	wrong := [][]byte{
		slices.Concat(number, sumOf(record), record),                        // of the record alone
		slices.Concat(number, sumOf(slices.Concat(record, number)), record), // the other way round
		slices.Concat(number, reversed, record),                             // the highest byte first
		slices.Concat(number, []byte{0, 0, 0, 0}, record),
		slices.Concat(number, record, right), // the sum behind
		slices.Concat(number, right, []byte("recorD")),
	}
	for _, b := range wrong {
		expectGet(t, b, 0, api.Sum)
		expectAll(t, "P4.2", b, nil, 0)
	}
	if _, _, err := Get(slices.Concat(number, right, record), 0); err != api.OK {
		t.Errorf("P4.1: Get with the right sum tells %d", err)
	}
}

// plainGet is what Get tells, read by the library.
func plainGet(b []byte, at int) ([]byte, int, api.Err) {
	if at < 0 || at > len(b) {
		return nil, 0, api.Arg
	}
	last := slices.IndexFunc(b[at:], func(c byte) bool { return c < 128 })
	if last < 0 {
		return nil, 0, api.End
	}
	size, count := binary.Uvarint(b[at:])
	from := at + last + 1
	if count <= 0 || !bytes.Equal(binary.AppendUvarint(nil, size), b[at:from]) {
		return nil, 0, api.Form
	}
	if size > 1<<16 {
		return nil, 0, api.Large
	}
	if uint64(len(b)-from) < 4+size {
		return nil, 0, api.End
	}
	next := from + 4 + int(size)
	record := b[from+4 : next]
	if !bytes.Equal(plainFrame(record), b[at:next]) {
		return nil, 0, api.Sum
	}
	return record, next, api.OK
}

func expectPlainGet(t *testing.T, b []byte, at int) {
	t.Helper()
	got, next, err := Get(b, at)
	record, place, want := plainGet(b, at)
	if err != want || next != place || !bytes.Equal(got, record) {
		t.Errorf("P4.1: Get(%v, %d) = %v, %d, %d, want %v, %d, %d", b, at, got, next, err, record, place, want)
	}
}

func TestEachBitTurned(t *testing.T) {
	for _, size := range []int{0, 1, 3, 60, 127, 128, 200} {
		records := [][]byte{recordOf(4), recordOf(size), recordOf(9)}
		b, ends := line(t, records)
		for bit := 8 * ends[0]; bit < 8*ends[1]; bit++ {
			b[bit/8] ^= 1 << (bit % 8)
			if _, _, err := Get(b, ends[0]); err == api.OK {
				t.Errorf("P4.1: Get with bit %d of a record of %d bytes turned tells OK", bit, size)
			}
			expectPlainGet(t, b, ends[0])
			expectPlainGet(t, b[:ends[1]], ends[0])
			expectAll(t, "P4.2", b, records[:1], ends[0])
			b[bit/8] ^= 1 << (bit % 8)
		}
		expectAll(t, "P4.2", b, records, ends[2])
	}
}

func TestEachBitOfALargeLengthTurned(t *testing.T) {
	record := recordOf(1 << 16)
	b := mustPut(t, nil, record)
	for bit := range 8 * 7 {
		b[bit/8] ^= 1 << (bit % 8)
		_, _, want := plainGet(b, 0)
		if want == api.OK {
			t.Fatalf("P4.1: bit %d turned is right all the same", bit)
		}
		expectGet(t, b, 0, want)
		b[bit/8] ^= 1 << (bit % 8)
	}
}

func TestAllOfEachSize(t *testing.T) {
	var records [][]byte
	for _, size := range sizes() {
		records = append(records, recordOf(size))
	}
	b, ends := line(t, records)
	expectAll(t, "P4.2", b, records, len(b))
	for i, end := range ends {
		expectAll(t, "P4.2", b[:end], records[:i+1], end)
	}
}

func TestAllOfManyEmptyRecords(t *testing.T) {
	frame := mustPut(t, nil, nil)
	records, end := All(bytes.Repeat(frame, 5000))
	if len(records) != 5000 || end != 25000 {
		t.Errorf("P4.2: All of 5000 empty records = %d, %d", len(records), end)
	}
}

// A whole frame behind a place where there is none is not read.
func TestAllEndsAtTheFirstPlaceWithoutAFrame(t *testing.T) {
	one, other := plainFrame([]byte("one")), plainFrame([]byte("other"))
	for _, gap := range [][]byte{{1}, {128, 0}, {255, 255, 255, 255}, one[:7], one[1:], make([]byte, 8), binary.AppendUvarint(nil, 1<<16+1)} {
		expectAll(t, "P4.2", slices.Concat(one, gap, other), [][]byte{[]byte("one")}, len(one))
		expectAll(t, "P4.2", slices.Concat(gap, one, other), nil, 0)
	}
}

func TestWholeFramesAndAPart(t *testing.T) {
	records := [][]byte{[]byte("one"), {}, recordOf(130), recordOf(127), {0}, recordOf(20)}
	b, ends := line(t, records)
	for cut := range len(b) + 1 {
		whole := 0
		for whole < len(ends) && ends[whole] <= cut {
			whole++
		}
		end := 0
		if whole > 0 {
			end = ends[whole-1]
		}
		expectAll(t, "P4.3", b[:cut], records[:whole], end)
	}
}

func TestWholeFramesAndAPartOfALargeOne(t *testing.T) {
	records := [][]byte{[]byte("one"), recordOf(1 << 14)}
	b, ends := line(t, records)
	large := mustPut(t, nil, recordOf(1<<16))
	for _, cut := range []int{0, 1, 2, 3, 4, 6, 7, 8, 1 << 15, len(large) - 1} {
		expectAll(t, "P4.3", slices.Concat(b, large[:cut]), records, ends[1])
	}
	expectAll(t, "P4.3", slices.Concat(b, large), append(records, recordOf(1<<16)), len(b)+len(large))
}

// An iterator that is left must not go on: Go itself would panic.
func TestFramesCanBeLeft(t *testing.T) {
	b, ends := line(t, [][]byte{[]byte("one"), []byte("two"), []byte("three")})
	for count := 1; count <= 3; count++ {
		seen := 0
		for next, record := range frames(b) {
			if next != ends[seen] || len(record) == 0 {
				t.Errorf("P4.2: frame %d ends at %d", seen, next)
			}
			seen++
			if seen == count {
				break
			}
		}
		if seen != count {
			t.Errorf("P4.2: left behind %d frames, saw %d", count, seen)
		}
	}
}

// roomy has bytes with room behind them, in which an append would write.
func roomy(b []byte) []byte {
	return append(make([]byte, 0, len(b)+100), b...)
}

func TestPutSharesAndChangesNothing(t *testing.T) {
	b, record := roomy([]byte("ahead")), roomy([]byte("record"))
	allB, allRecord := slices.Clone(b[:cap(b)]), slices.Clone(record[:cap(record)])
	one := mustPut(t, b, record)
	held := slices.Clone(one)
	other := mustPut(t, b, record)
	clear(one[:cap(one)])
	if !bytes.Equal(other, held) {
		t.Errorf("R4: two answers of Put share memory")
	}
	if !bytes.Equal(b[:cap(b)], allB) || !bytes.Equal(record[:cap(record)], allRecord) {
		t.Errorf("R4: Put changes or shares what it is given")
	}
	// The record may be a piece of b.
	got := mustPut(t, b, b[1:3])
	if !bytes.Equal(got, slices.Concat([]byte("ahead"), plainFrame([]byte("he")))) {
		t.Errorf("P4.1: Put of a piece of b: %v", got)
	}
	if _, err := Put(b, make([]byte, 1<<16+1)); err != api.Large || !bytes.Equal(b[:cap(b)], allB) {
		t.Errorf("R4: Put of a large record changes b")
	}
}

func TestGetSharesAndChangesNothing(t *testing.T) {
	for _, record := range [][]byte{{}, []byte("record"), recordOf(200)} {
		b := roomy(mustPut(t, []byte("ahead"), record))
		held := slices.Clone(b[:cap(b)])
		one, _, _ := Get(b, 5)
		other, _, _ := Get(b, 5)
		clear(one[:cap(one)])
		if !bytes.Equal(b[:cap(b)], held) {
			t.Errorf("R4: Get changes or shares what it is given")
		}
		if !bytes.Equal(other, record) {
			t.Errorf("R4: two answers of Get share memory")
		}
	}
}

func TestAllSharesAndChangesNothing(t *testing.T) {
	records := [][]byte{[]byte("one"), {}, recordOf(150), []byte("four")}
	b, _ := line(t, records)
	b = roomy(append(b, 7))
	held := slices.Clone(b[:cap(b)])
	for i := range records {
		got, _ := All(b)
		clear(got[i][:cap(got[i])])
		if !bytes.Equal(b[:cap(b)], held) {
			t.Errorf("R4: All changes or shares what it is given")
		}
		for k, record := range got {
			if k != i && !bytes.Equal(record, records[k]) {
				t.Errorf("R4: records %d and %d of All share memory", i, k)
			}
		}
	}
}

func FuzzFrames(f *testing.F) {
	f.Add([]byte{}, 0)
	f.Add(plainFrame(nil), 0)
	f.Add(slices.Concat(plainFrame([]byte("one")), plainFrame(recordOf(130)), []byte{7}), 8)
	f.Add([]byte{128, 0, 1}, 0)
	f.Add(append(binary.AppendUvarint(nil, 1<<16+1), 1), -1)
	f.Add(bytes.Repeat([]byte{255}, 12), 13)
	f.Fuzz(func(t *testing.T, b []byte, at int) {
		expectPlainGet(t, b, at)
		var records [][]byte
		end := 0
		for record, next, err := plainGet(b, 0); err == api.OK; record, next, err = plainGet(b, next) {
			records = append(records, record)
			end = next
		}
		expectAll(t, "P4.2", b, records, end)
		frame, err := Put(b[:end], b)
		if len(b) > 1<<16 {
			if err != api.Large || len(frame) != 0 {
				t.Errorf("P4.1: Put of %d bytes tells %d", len(b), err)
			}
			return
		}
		expectAll(t, "P4.3", frame, append(records, b), end+Size(len(b)))
		expectAll(t, "P4.3", frame[:len(frame)-1], records, end)
	})
}
