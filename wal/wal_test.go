package wal

import (
	"bytes"
	"encoding/binary"
	"fmt"
	"hash/crc32"
	"maps"
	"math"
	"math/rand"
	"reflect"
	"regexp"
	"slices"
	"strconv"
	"strings"
	"testing"

	"sorites/api"
	"sorites/disk"
)

// view is all that a log tells.
type view struct {
	base    uint64
	data    string
	records []string
	next    uint64
	parts   []uint64
}

func viewOf(l *Log) view {
	var v view
	base, data := l.Base()
	v.base, v.data, v.next = base, string(data), l.Next()
	for _, record := range l.Records() {
		v.records = append(v.records, string(record))
	}
	v.parts = append(v.parts, l.Parts()...)
	return v
}

// content is what P5.3 speaks of: in which parts it lies is not told there.
func (v view) content() view {
	v.parts = nil
	return v
}

func (v view) with(record string) view {
	v.records = append(slices.Clone(v.records), record)
	v.next++
	return v
}

func same(v, w view) bool {
	return reflect.DeepEqual(v, w)
}

func want(t *testing.T, what string, got, wanted api.Err) {
	t.Helper()
	if got != wanted {
		t.Errorf("%s: error %d, want %d", what, got, wanted)
	}
}

func wantView(t *testing.T, what string, l *Log, wanted view) {
	t.Helper()
	if got := viewOf(l); !same(got, wanted) {
		t.Errorf("%s: %s, want %s", what, short(got), short(wanted))
	}
}

// wantContent lets the parts be: an old one goes as soon as it isn't needed.
func wantContent(t *testing.T, what string, l *Log, wanted view) {
	t.Helper()
	if got := viewOf(l).content(); !same(got, wanted.content()) {
		t.Errorf("%s: %s, want %s", what, short(got), short(wanted.content()))
	}
}

func short(v view) string {
	s := fmt.Sprintf("%+v", v)
	return s[:min(len(s), 300)]
}

func newDisk(t testing.TB, room int) *disk.Disk {
	t.Helper()
	d, err := disk.New(room)
	if err != api.OK {
		t.Fatalf("disk.New(%d): %d", room, err)
	}
	return d
}

func mustOpen(t testing.TB, d *disk.Disk, limit int) *Log {
	t.Helper()
	l, err := Open(d, limit)
	if err != api.OK || l == nil {
		t.Fatalf("P5.1: Open of %q: %v, %d", d.Names(), l, err)
	}
	return l
}

func mustAppend(t testing.TB, l *Log, records ...string) {
	t.Helper()
	for _, record := range records {
		if err := l.Append([]byte(record)); err != api.OK {
			t.Fatalf("P5.1: Append of %d bytes: %d", len(record), err)
		}
	}
}

// refuses holds that Open tells an error, and no log.
func refuses(t *testing.T, what string, d *disk.Disk, limit int, wanted api.Err) {
	t.Helper()
	if l, err := Open(d, limit); err != wanted || l != nil {
		t.Errorf("%s: Open = %v, %d, want %d", what, l, err, wanted)
	}
}

// fill lays files on a disk without the log.
func fill(t testing.TB, d *disk.Disk, files map[string]string) {
	t.Helper()
	for _, name := range slices.Sorted(maps.Keys(files)) {
		if d.Make(name) != api.OK || d.Append(name, []byte(files[name])) != api.OK {
			t.Fatalf("the disk refuses %q", name)
		}
	}
	d.Sync()
}

func lay(t testing.TB, files map[string]string) *disk.Disk {
	t.Helper()
	d := newDisk(t, 1<<24)
	fill(t, d, files)
	return d
}

// filesOn reads all that is seen.
func filesOn(d *disk.Disk) map[string]string {
	files := map[string]string{}
	for _, name := range d.Names() {
		b, _ := d.Read(name)
		files[name] = string(b)
	}
	return files
}

func wantFiles(t *testing.T, what string, d *disk.Disk, files map[string]string) {
	t.Helper()
	if got := filesOn(d); !maps.Equal(got, files) {
		t.Errorf("%s: files %.300q, want %.300q", what, fmt.Sprint(got), fmt.Sprint(files))
	}
}

// plainFrames are the frames of records, by the library's numbers and sums.
func plainFrames(records ...string) string {
	var all []byte
	for _, record := range records {
		number := binary.AppendUvarint(nil, uint64(len(record)))
		sum := crc32.ChecksumIEEE(append(slices.Clone(number), record...))
		all = append(all, binary.LittleEndian.AppendUint32(number, sum)...)
		all = append(all, record...)
	}
	return string(all)
}

func plainCheckpoint(number uint64, data string) string {
	return plainFrames(string(binary.AppendUvarint(nil, number)) + data)
}

// plainRead takes frames off as long as the ones of the same record stand there.
func plainRead(b string) (records []string, end int) {
	for {
		size, n := binary.Uvarint([]byte(b[end:]))
		start := end + n + 4
		if n <= 0 || size > 1<<16 || start+int(size) > len(b) {
			return records, end
		}
		record := b[start : start+int(size)]
		if !strings.HasPrefix(b[end:], plainFrames(record)) {
			return records, end
		}
		records = append(records, record)
		end = start + int(size)
	}
}

// plainBase reads a checkpoint's file.
func plainBase(b string) (number uint64, data string, ok bool) {
	records, end := plainRead(b)
	if len(records) != 1 || end != len(b) {
		return 0, "", false
	}
	number, n := binary.Uvarint([]byte(records[0]))
	if n <= 0 || !strings.HasPrefix(records[0], string(binary.AppendUvarint(nil, number))) {
		return 0, "", false
	}
	return number, records[0][n:], true
}

var partName = regexp.MustCompile(`^w(0|[1-9][0-9]*)$`)

func plainParts(files map[string]string) []uint64 {
	var parts []uint64
	for name := range files {
		if m := partName.FindStringSubmatch(name); m != nil {
			if n, err := strconv.ParseUint(m[1], 10, 64); err == nil && n <= 1<<40 {
				parts = append(parts, n)
			}
		}
	}
	slices.Sort(parts)
	return parts
}

func partFile(number uint64) string {
	return fmt.Sprint("w", number)
}

// opening is what comes of opening files: what the log tells, the files then,
// and how many deeds and syncs that takes.
type opening struct {
	view  view
	files map[string]string
	deeds int
	form  bool
}

// plainOpen is the chapter's words on files at hand.
func plainOpen(before map[string]string) opening {
	o := opening{files: maps.Clone(before)}
	if c, there := before["c"]; there {
		number, data, ok := plainBase(c)
		if !ok {
			return opening{form: true}
		}
		o.view.base, o.view.data = number, data
	}
	drop := func(name string) {
		if _, there := o.files[name]; there {
			delete(o.files, name)
			o.deeds++
		}
	}
	parts := plainParts(before)
	for len(parts) > 1 && parts[1] <= o.view.base {
		drop(partFile(parts[0]))
		parts = parts[1:]
	}
	drop("t")
	numbered := map[uint64]string{}
	next := o.view.base
	if len(parts) > 0 {
		if parts[0] > o.view.base {
			return opening{form: true}
		}
		next = parts[0]
	}
	for i, p := range parts {
		if p != next {
			return opening{form: true}
		}
		name := partFile(p)
		records, end := plainRead(o.files[name])
		for _, record := range records {
			numbered[next] = record
			next++
		}
		o.view.parts = append(o.view.parts, p)
		if end < len(o.files[name]) {
			o.files[name] = o.files[name][:end]
			o.deeds++
			for _, later := range parts[i+1:] {
				drop(partFile(later))
			}
			break
		}
	}
	if o.deeds > 0 {
		o.deeds++
	}
	if next < o.view.base {
		for _, p := range o.view.parts {
			drop(partFile(p))
		}
		o.deeds++
		o.view.parts = nil
		next = o.view.base
	}
	o.view.next = next
	for n := o.view.base; n < next; n++ {
		o.view.records = append(o.view.records, numbered[n])
	}
	return o
}

// opens holds what Open does of files against plainOpen.
func opens(t *testing.T, what string, files map[string]string) {
	t.Helper()
	d := lay(t, files)
	before := d.Deeds()
	o := plainOpen(files)
	if o.form {
		refuses(t, "P5.1: "+what, d, 100, api.Form)
		return
	}
	l, err := Open(d, 100)
	if err != api.OK {
		t.Errorf("P5.1: %s: Open: %d", what, err)
		return
	}
	wantView(t, "P5.2: "+what, l, o.view)
	wantFiles(t, "P5.1: "+what, d, o.files)
	if got := d.Deeds() - before; got != o.deeds {
		t.Errorf("P5.1: %s: Open did %d deeds, want %d", what, got, o.deeds)
	}
	if o.deeds > 0 && d.Waits() != 0 {
		t.Errorf("P5.1: %s: %d deeds wait behind Open", what, d.Waits())
	}
	opensBehindCrashes(t, what, files, o)
}

// opensBehindCrashes holds that an Open that went down, at any deed, leaves
// what the next one opens to the very same log.
func opensBehindCrashes(t *testing.T, what string, files map[string]string, o opening) {
	t.Helper()
	for n := 1; n <= o.deeds; n++ {
		for keep := 0; keep <= o.deeds; keep++ {
			d := lay(t, files)
			d.Arm(n)
			refuses(t, fmt.Sprintf("P5.1: %s, down at deed %d", what, n), d, 100, api.Down)
			d.Crash(keep, 0)
			l, err := Open(d, 100)
			if err != api.OK {
				t.Errorf("P5.3: %s, down at deed %d, %d kept: Open: %d", what, n, keep, err)
				continue
			}
			wantView(t, fmt.Sprintf("P5.3: %s, down at deed %d, %d kept", what, n, keep), l, o.view)
		}
	}
}

// The chapter's example.
func TestNewLog(t *testing.T) {
	for _, limit := range []int{1, 2, 4096, math.MaxInt} {
		d := newDisk(t, 100)
		l := mustOpen(t, d, limit)
		if l.Next() != 0 {
			t.Errorf("P5.2: a new log's Next is %d", l.Next())
		}
		wantView(t, "P5.2: a new log", l, view{})
		if d.Deeds() != 0 {
			t.Errorf("P5.1: Open of an empty disk did %d deeds", d.Deeds())
		}
	}
}

func TestAppendAndOpenAgain(t *testing.T) {
	d := newDisk(t, 1<<16)
	l := mustOpen(t, d, 16)
	mustAppend(t, l, "one", "two", "three", "four")
	wanted := view{records: []string{"one", "two", "three", "four"}, next: 4, parts: []uint64{0, 2}}
	wantView(t, "P5.1: Append", l, wanted)
	wantFiles(t, "P5.1: Append", d, map[string]string{"w0": plainFrames("one", "two"), "w2": plainFrames("three", "four")})
	if d.Deeds() != 6 || d.Waits() != 6 {
		t.Errorf("P5.1: Append did %d deeds, %d wait", d.Deeds(), d.Waits())
	}
	want(t, "P5.1: Sync", l.Sync(), api.OK)
	if d.Deeds() != 7 || d.Waits() != 0 {
		t.Errorf("P5.1: Sync: %d deeds, %d wait", d.Deeds(), d.Waits())
	}
	again := mustOpen(t, d, 16)
	wantView(t, "P5.2: opened again", again, wanted)
	if d.Deeds() != 7 {
		t.Errorf("P5.1: Open of a whole log did %d deeds", d.Deeds()-7)
	}
	mustAppend(t, again, "five")
	wantFiles(t, "P5.1: Append behind Open", d, map[string]string{
		"w0": plainFrames("one", "two"), "w2": plainFrames("three", "four"), "w4": plainFrames("five")})
}

func TestCheckAndGoOn(t *testing.T) {
	d := newDisk(t, 1<<16)
	l := mustOpen(t, d, 16)
	mustAppend(t, l, "one", "two", "three")
	want(t, "P5.2: Check", l.Check([]byte("all three")), api.OK)
	wantView(t, "P5.2: Check", l, view{base: 3, data: "all three", next: 3})
	wantFiles(t, "P5.2: Check", d, map[string]string{"c": plainCheckpoint(3, "all three")})
	wantView(t, "P5.2: Check and Open", mustOpen(t, d, 16), view{base: 3, data: "all three", next: 3})
	mustAppend(t, l, "four", "five", "six")
	wanted := view{base: 3, data: "all three", records: []string{"four", "five", "six"}, next: 6, parts: []uint64{3, 5}}
	wantView(t, "P5.2: Append behind Check", l, wanted)
	wantView(t, "P5.2: Append behind Check, and Open", mustOpen(t, d, 16), wanted)
	want(t, "P5.2: Check again", l.Check(nil), api.OK)
	wantView(t, "P5.2: Check again", l, view{base: 6, next: 6})
	want(t, "P5.2: Check of nothing new", l.Check([]byte("other")), api.OK)
	wantView(t, "P5.2: Check of nothing new", l, view{base: 6, data: "other", next: 6})
	wantFiles(t, "P5.2: Check of nothing new", d, map[string]string{"c": plainCheckpoint(6, "other")})
}

func TestCheckOfANewLog(t *testing.T) {
	d := newDisk(t, 1<<16)
	l := mustOpen(t, d, 16)
	want(t, "P5.2: Check of a new log", l.Check([]byte("x")), api.OK)
	wantView(t, "P5.2: Check of a new log", l, view{data: "x"})
	if d.Deeds() != 6 || d.Waits() != 0 {
		t.Errorf("P5.2: Check without parts: %d deeds, %d wait, want 6 and 0", d.Deeds(), d.Waits())
	}
	mustAppend(t, l, "first")
	wantView(t, "P5.2: a checkpoint of 0", mustOpen(t, d, 16), view{data: "x", records: []string{"first"}, next: 1, parts: []uint64{0}})
}

// Frames of 3 bytes have 8: the limit is the part's bytes, one more, one fewer.
func TestLimits(t *testing.T) {
	records := []string{"one", "two", "six", "ten"}
	cases := []struct {
		limit int
		parts []uint64
	}{
		{1, []uint64{0, 1, 2, 3}},
		{7, []uint64{0, 1, 2, 3}},
		{8, []uint64{0, 1, 2, 3}},
		{9, []uint64{0, 2}},
		{15, []uint64{0, 2}},
		{16, []uint64{0, 2}},
		{17, []uint64{0, 3}},
		{24, []uint64{0, 3}},
		{25, []uint64{0}},
		{math.MaxInt, []uint64{0}},
	}
	for _, c := range cases {
		d := newDisk(t, 1<<16)
		whole := mustOpen(t, d, c.limit)
		mustAppend(t, whole, records...)
		wanted := view{records: records, next: 4, parts: c.parts}
		wantView(t, fmt.Sprintf("P5.1: a limit of %d", c.limit), whole, wanted)
		wantView(t, fmt.Sprintf("P5.1: a limit of %d, opened", c.limit), mustOpen(t, d, c.limit), wanted)
		other := newDisk(t, 1<<16)
		for _, record := range records {
			mustAppend(t, mustOpen(t, other, c.limit), record)
		}
		wantFiles(t, fmt.Sprintf("P5.1: a limit of %d, opened for each record", c.limit), other, filesOn(d))
	}
}

func TestLimitOfARecordThatIsTooLong(t *testing.T) {
	l := mustOpen(t, newDisk(t, 1<<16), 10)
	mustAppend(t, l, "a record above the limit", "", "", "")
	wantView(t, "P5.1: a part has a record at least", l, view{
		records: []string{"a record above the limit", "", "", ""}, next: 4, parts: []uint64{0, 1, 3}})
}

func TestSizesOfRecords(t *testing.T) {
	for _, size := range []int{0, 1, 127, 128, 1<<16 - 1, 1 << 16} {
		d := newDisk(t, 1<<18)
		l := mustOpen(t, d, 100)
		record := strings.Repeat("r", size)
		mustAppend(t, l, record)
		wantFiles(t, fmt.Sprintf("P5.1: a record of %d bytes", size), d, map[string]string{"w0": plainFrames(record)})
		wantView(t, fmt.Sprintf("P5.1: a record of %d bytes", size), mustOpen(t, d, 100), view{records: []string{record}, next: 1, parts: []uint64{0}})
	}
	want(t, "P5.1: Append(nil)", mustOpen(t, newDisk(t, 10), 1).Append(nil), api.OK)
}

func TestLargeRecordsDoNothing(t *testing.T) {
	for _, size := range []int{1<<16 + 1, 1 << 17, 1 << 20} {
		d := newDisk(t, 10)
		l := mustOpen(t, d, 1)
		d.Arm(1)
		want(t, "P5.1: Append of a large record", l.Append(make([]byte, size)), api.Large)
		wantView(t, "P5.1: Append of a large record", l, view{})
		if d.Deeds() != 0 || len(d.Names()) != 0 || !d.Up() {
			t.Errorf("P5.1: Append of a large record did something: %d deeds, %q", d.Deeds(), d.Names())
		}
		want(t, "P5.1: Append to a disk that goes down", l.Append(nil), api.Down)
		want(t, "P5.1: Append of a large record to a disk that is down", l.Append(make([]byte, size)), api.Large)
		d.Crash(0, 0)
		mustAppend(t, mustOpen(t, d, 1), "short")
	}
}

func TestSizesOfData(t *testing.T) {
	for _, size := range []int{0, 1, 1<<15 - 1, 1 << 15} {
		d := newDisk(t, 1<<17)
		l := mustOpen(t, d, 100)
		mustAppend(t, l, "one")
		data := strings.Repeat("d", size)
		want(t, fmt.Sprintf("P5.2: Check of %d bytes", size), l.Check([]byte(data)), api.OK)
		wantView(t, fmt.Sprintf("P5.2: Check of %d bytes", size), mustOpen(t, d, 100), view{base: 1, data: data, next: 1})
	}
	for _, size := range []int{1<<15 + 1, 1 << 16, 1 << 20} {
		d := newDisk(t, 1<<17)
		l := mustOpen(t, d, 100)
		mustAppend(t, l, "one")
		before, deeds := viewOf(l), d.Deeds()
		want(t, fmt.Sprintf("P5.2: Check of %d bytes", size), l.Check(make([]byte, size)), api.Large)
		wantView(t, "P5.2: Check of large data", l, before)
		if d.Deeds() != deeds {
			t.Errorf("P5.2: Check of large data did %d deeds", d.Deeds()-deeds)
		}
		d.Arm(1)
		want(t, "P5.2: Check on a disk that goes down", l.Check(nil), api.Down)
		want(t, "P5.2: Check of large data on a disk that is down", l.Check(make([]byte, size)), api.Large)
	}
}

func TestNilLog(t *testing.T) {
	var l *Log
	for _, b := range [][]byte{nil, {}, {1}, make([]byte, 1<<16+1)} {
		want(t, "P5.1: Append to nil", l.Append(b), api.Nil)
		want(t, "P5.2: Check of nil", l.Check(b), api.Nil)
	}
	want(t, "P5.1: Sync of nil", l.Sync(), api.Nil)
	wantView(t, "P5.2: of nil", l, view{})
}

func TestLogWithoutOpen(t *testing.T) {
	l := &Log{}
	want(t, "R1: Append to a log that Open didn't make", l.Append([]byte("x")), api.Nil)
	want(t, "R1: Check of a log that Open didn't make", l.Check([]byte("x")), api.Nil)
	want(t, "R1: Sync of a log that Open didn't make", l.Sync(), api.Nil)
	wantView(t, "R1: a log that Open didn't make", l, view{})
}

func TestArgumentsOfOpen(t *testing.T) {
	down := lay(t, map[string]string{"c": "no frame", "w9": "", "t": ""})
	down.Arm(1)
	down.Sync()
	for _, limit := range []int{0, -1, math.MinInt} {
		refuses(t, fmt.Sprintf("P5.1: no disk, and a limit of %d", limit), nil, limit, api.Nil)
		refuses(t, fmt.Sprintf("P5.1: a limit of %d", limit), newDisk(t, 10), limit, api.Arg)
		refuses(t, fmt.Sprintf("P5.1: a limit of %d, and a disk that is down", limit), down, limit, api.Arg)
	}
	refuses(t, "P5.1: no disk", nil, 1, api.Nil)
	refuses(t, "P5.1: a disk that is down", down, 1, api.Down)
	down.Crash(0, 0)
	refuses(t, "P5.1: a disk that is up again", down, 1, api.Form)
}

func TestCheckpointsThatCantBeRead(t *testing.T) {
	number := func(b ...byte) string { return plainFrames(string(b)) }
	right := plainCheckpoint(2, "data")
	wrong := map[string]string{
		"no bytes":                   "",
		"no frame":                   "no frame",
		"a byte 0":                   "\x00",
		"a frame's beginning":        right[:len(right)-1],
		"a byte behind":              right + "\x00",
		"a frame behind":             right + right,
		"an empty record":            plainFrames(""),
		"an empty record, and right": plainFrames("") + right,
		"a number without an end":    number(0x80),
		"a number of 11 bytes":       number(0x81, 0x80, 0x80, 0x80, 0x80, 0x80, 0x80, 0x80, 0x80, 0x80, 1),
		"a number above 2^64":        number(0xff, 0xff, 0xff, 0xff, 0xff, 0xff, 0xff, 0xff, 0xff, 2),
		"a number with a zero":       number(0x82, 0),
		"another sum":                right[:3] + "!" + right[4:],
		"another byte":               right[:len(right)-1] + "!",
	}
	for what, c := range wrong {
		refuses(t, "P5.1: c with "+what, lay(t, map[string]string{"c": c}), 1, api.Form)
		files := map[string]string{"c": c, "w0": plainFrames("one"), "w1": ""}
		opens(t, "c with "+what+", and parts", files)
	}
}

func TestCheckpointsThatCan(t *testing.T) {
	for _, number := range []uint64{0, 1, 127, 128, 1 << 40, 1<<40 + 1, 1<<63 - 1, 1 << 63, math.MaxUint64} {
		for _, size := range []int{0, 1, 1 << 15, 1<<16 - 10} {
			data := strings.Repeat("\xff", size)
			files := map[string]string{"c": plainCheckpoint(number, data)}
			wantView(t, fmt.Sprint("P5.2: a checkpoint of ", number), mustOpen(t, lay(t, files), 1), view{base: number, data: data, next: number})
			opens(t, fmt.Sprint("a checkpoint of ", number), files)
		}
	}
}

func TestNamesOfParts(t *testing.T) {
	can := map[string]uint64{"w0": 0, "w1": 1, "w9": 9, "w10": 10, "w1099511627775": 1<<40 - 1, "w1099511627776": 1 << 40}
	for name, number := range can {
		d := lay(t, map[string]string{"c": plainCheckpoint(number, ""), name: plainFrames("x")})
		wantView(t, "P5.1: a part "+name, mustOpen(t, d, 1), view{base: number, records: []string{"x"}, next: number + 1, parts: []uint64{number}})
	}
	cant := []string{"w", "w00", "w01", "w007", "w1099511627777", "w01099511627776", "w999999999999999", "w+1", "w-1", "w-0", "w 1", "w1 ",
		"w1_0", "w0x1", "w1e1", "w1.0", "W1", "1", "0", "ww1", "v1", "w\x00", "w\u0661", "c1", "t1", "a"}
	for _, name := range cant {
		for _, number := range []uint64{0, 1, 7, 1 << 40, 1<<40 + 1, math.MaxUint64} {
			files := map[string]string{"c": plainCheckpoint(number, ""), name: plainFrames("x")}
			d := lay(t, files)
			deeds := d.Deeds()
			wantView(t, fmt.Sprintf("P5.1: no part %q", name), mustOpen(t, d, 1), view{base: number, next: number})
			wantFiles(t, fmt.Sprintf("P5.1: no part %q", name), d, files)
			if d.Deeds() != deeds {
				t.Errorf("P5.1: no part %q: %d deeds", name, d.Deeds()-deeds)
			}
		}
	}
}

// Names in the order of texts would put w10 ahead of w9.
func TestPartsInOrderOfNumbers(t *testing.T) {
	d := newDisk(t, 1<<16)
	l := mustOpen(t, d, 1)
	wanted := view{next: 30}
	for i := range 30 {
		record := fmt.Sprint("record ", i)
		mustAppend(t, l, record)
		wanted.records = append(wanted.records, record)
		wanted.parts = append(wanted.parts, uint64(i))
	}
	wantView(t, "P5.2: parts in order", l, wanted)
	wantView(t, "P5.2: parts in order, opened", mustOpen(t, d, 1), wanted)
}

func TestGreatestPart(t *testing.T) {
	d := lay(t, map[string]string{"c": plainCheckpoint(1<<40, "")})
	l := mustOpen(t, d, 100)
	mustAppend(t, l, "one", "two")
	wanted := view{base: 1 << 40, records: []string{"one", "two"}, next: 1<<40 + 2, parts: []uint64{1 << 40}}
	wantView(t, "P5.2: the part 2^40", l, wanted)
	wantView(t, "P5.2: the part 2^40, opened", mustOpen(t, d, 100), wanted)
}

// A part of the greatest number has a name that no disk has.
func TestNumbersAboveTheNames(t *testing.T) {
	for _, number := range []uint64{1e15, 1 << 63, math.MaxUint64} {
		d := lay(t, map[string]string{"c": plainCheckpoint(number, "x")})
		l := mustOpen(t, d, 100)
		want(t, fmt.Sprint("P5.1: Append at ", number), l.Append([]byte("one")), api.Arg)
		wantView(t, fmt.Sprint("R5: at ", number), l, view{base: number, data: "x", next: number})
		want(t, fmt.Sprint("P5.2: Check at ", number), l.Check([]byte("y")), api.OK)
		wantView(t, fmt.Sprint("P5.2: Check at ", number), mustOpen(t, d, 100), view{base: number, data: "y", next: number})
	}
}

// Each number of a checkpoint at, below and above that of each part's first
// record, and above all records.
func TestCheckpointAmongParts(t *testing.T) {
	parts := map[string]string{"w0": plainFrames("zero", "one"), "w2": plainFrames("two", "three", ""), "w5": plainFrames("five"), "w6": ""}
	records := []string{"zero", "one", "two", "three", "", "five"}
	first := []uint64{0, 0, 2, 2, 2, 5, 6}
	for base := range uint64(9) {
		files := maps.Clone(parts)
		files["c"] = plainCheckpoint(base, "c")
		opens(t, fmt.Sprint("a checkpoint of ", base), files)
		wanted := view{base: base, data: "c", next: base}
		if base <= 6 {
			wanted.next = 6
			wanted.records = append(wanted.records, records[base:]...)
			for _, p := range []uint64{0, 2, 5, 6} {
				if p >= first[base] {
					wanted.parts = append(wanted.parts, p)
				}
			}
		}
		d := lay(t, files)
		wantView(t, fmt.Sprint("P5.2: a checkpoint of ", base), mustOpen(t, d, 1), wanted)
		if names := d.Names(); len(names) != 1+len(wanted.parts) {
			t.Errorf("P5.1: a checkpoint of %d leaves %q", base, names)
		}
	}
	opens(t, "no checkpoint", parts)
}

func TestRecordsThatEndAheadOfTheCheckpoint(t *testing.T) {
	for base := range uint64(8) {
		for count := range 6 {
			files := map[string]string{"c": plainCheckpoint(base, "c"), "w2": plainFrames(slices.Repeat([]string{"x"}, count)...)}
			opens(t, fmt.Sprintf("%d records from 2 on, a checkpoint of %d", count, base), files)
			if base < 2 {
				continue
			}
			d := lay(t, files)
			l := mustOpen(t, d, 1)
			if uint64(2+count) < base {
				wantFiles(t, "P5.1: records that end ahead", d, map[string]string{"c": files["c"]})
			}
			mustAppend(t, l, "more")
			wantContent(t, "P5.2: Append behind records that may end ahead", mustOpen(t, d, 1), viewOf(l))
		}
	}
}

func TestFirstPartAboveTheCheckpoint(t *testing.T) {
	for _, first := range []uint64{1, 2, 1 << 40} {
		for _, text := range []string{"", plainFrames("x"), "no frame"} {
			name := partFile(first)
			refuses(t, "P5.1: no checkpoint, and "+name, lay(t, map[string]string{name: text}), 1, api.Form)
			for _, base := range []uint64{0, first - 1} {
				files := map[string]string{"c": plainCheckpoint(base, ""), name: text}
				refuses(t, "P5.1: a checkpoint below "+name, lay(t, files), 1, api.Form)
				opens(t, "a checkpoint below "+name, files)
			}
		}
	}
}

func TestPartsThatDontComeNext(t *testing.T) {
	two := plainFrames("x", "y")
	wrong := []map[string]string{
		{"w0": two, "w1": two},
		{"w0": two, "w3": two},
		{"w0": two, "w3": ""},
		{"w0": two, "w1": ""},
		{"w0": "", "w1": ""},
		{"w0": two, "w2": two, "w3": two},
		{"w0": two, "w2": two, "w5": two},
		{"w0": two, "w2": "", "w3": two},
		{"c": plainCheckpoint(2, ""), "w0": two, "w3": two},
		{"c": plainCheckpoint(2, ""), "w2": two, "w5": two},
		{"c": plainCheckpoint(5, ""), "w0": two, "w2": two, "w6": two},
		{"w0": two, "w2": two, "w5": "no frame"},
		{"w0": two, "w1099511627776": two},
	}
	for _, files := range wrong {
		what := fmt.Sprint("parts ", slices.Sorted(maps.Keys(files)))
		refuses(t, "P5.1: "+what, lay(t, files), 1, api.Form)
		opens(t, what, files)
	}
	// Of parts that the checkpoint stands for nothing is asked.
	opens(t, "old parts with gaps", map[string]string{"c": plainCheckpoint(5, ""), "w0": two, "w3": "no frame", "w4": two, "w6": two})
}

func TestPartsThatEndWithNoFrame(t *testing.T) {
	two := plainFrames("x", "yy")
	tails := []string{"\x00", "\x80", "no frame", two[:3], two[:7], strings.Repeat("\xff", 30), plainFrames("z")[:5] + "Z"}
	bases := []string{"", plainCheckpoint(0, ""), plainCheckpoint(1, "c"), plainCheckpoint(2, "c"), plainCheckpoint(3, "c"), plainCheckpoint(9, "c")}
	for _, tail := range tails {
		for _, c := range bases {
			for _, later := range [][]string{nil, {"w2"}, {"w4"}, {"w2", "w4"}, {"w1", "w9", "w10"}} {
				files := map[string]string{"w0": two + tail}
				if c != "" {
					files["c"] = c
				}
				for _, name := range later {
					files[name] = two
				}
				opens(t, fmt.Sprintf("a tail %q, c %q, and %q", tail, c, later), files)
				files["w0"] = tail
				opens(t, fmt.Sprintf("nothing but a tail %q, c %q, and %q", tail, c, later), files)
			}
		}
	}
}

func TestAppendBehindACut(t *testing.T) {
	d := lay(t, map[string]string{"w0": plainFrames("one") + "tail", "w7": "x", "t": "y"})
	l := mustOpen(t, d, 9)
	wantView(t, "P5.1: a part that was cut", l, view{records: []string{"one"}, next: 1, parts: []uint64{0}})
	mustAppend(t, l, "two", "six")
	wantFiles(t, "P5.1: Append behind a cut", d, map[string]string{"w0": plainFrames("one", "two"), "w2": plainFrames("six")})
}

func TestFileThatIsBeingMade(t *testing.T) {
	for _, text := range []string{"", "x", plainCheckpoint(9, "t")} {
		opens(t, "nothing but t", map[string]string{"t": text})
		opens(t, "t and parts", map[string]string{"t": text, "w0": plainFrames("x")})
		opens(t, "t and a checkpoint", map[string]string{"t": text, "c": plainCheckpoint(1, "c"), "w0": plainFrames("x")})
		d := newDisk(t, 1<<16)
		l := mustOpen(t, d, 100)
		mustAppend(t, l, "one")
		fill(t, d, map[string]string{"t": text})
		want(t, "P5.2: Check with t left", l.Check([]byte("c")), api.OK)
		wantFiles(t, "P5.2: Check with t left", d, map[string]string{"c": plainCheckpoint(1, "c")})
	}
}

func TestOtherFilesStay(t *testing.T) {
	others := map[string]string{"a": "1", "w": "2", "w01": "3", "tt": "4", "cc": "5", "W0": "6", "w1099511627777": "7"}
	d := lay(t, others)
	l := mustOpen(t, d, 1)
	mustAppend(t, l, "x", "y")
	want(t, "P5.2: Check beside others", l.Check([]byte("c")), api.OK)
	wanted := maps.Clone(others)
	wanted["c"] = plainCheckpoint(2, "c")
	wantFiles(t, "P5.2: Check beside others", d, wanted)
}

// Check goes down at each of its deeds in turn; what was done ahead is seen
// when all of it is kept.
func TestCheckInOrder(t *testing.T) {
	w0, w2, old, made := plainFrames("one", "two"), plainFrames("six"), plainCheckpoint(0, "old"), plainCheckpoint(3, "new")
	steps := []struct {
		waits int
		files map[string]string
	}{
		{0, map[string]string{"c": old, "w0": w0, "w2": w2, "t": "left"}},
		{1, map[string]string{"c": old, "w0": w0, "w2": w2}},
		{2, map[string]string{"c": old, "w0": w0, "w2": w2, "t": ""}},
		{3, map[string]string{"c": old, "w0": w0, "w2": w2, "t": made}},
		{0, map[string]string{"c": old, "w0": w0, "w2": w2, "t": made}},
		{1, map[string]string{"c": made, "w0": w0, "w2": w2}},
		{0, map[string]string{"c": made, "w0": w0, "w2": w2}},
		{1, map[string]string{"c": made, "w2": w2}},
		{2, map[string]string{"c": made}},
		{0, map[string]string{"c": made}},
	}
	for done, step := range steps {
		d := lay(t, map[string]string{"c": old})
		l := mustOpen(t, d, 16)
		mustAppend(t, l, "one", "two", "six")
		fill(t, d, map[string]string{"t": "left"})
		before := d.Deeds()
		d.Arm(done + 1)
		wanted := api.Down
		if done == len(steps)-1 {
			wanted = api.OK
		}
		what := fmt.Sprintf("P5.2: Check down behind %d deeds", done)
		want(t, what, l.Check([]byte("new")), wanted)
		if d.Deeds()-before != done || d.Waits() != step.waits {
			t.Errorf("%s: %d deeds, %d wait, want %d", what, d.Deeds()-before, d.Waits(), step.waits)
		}
		d.Crash(99, 0)
		wantFiles(t, what, d, step.files)
	}
}

func TestAppendGoesDown(t *testing.T) {
	for _, c := range []struct{ ahead, deeds int }{{0, 2}, {1, 1}, {2, 2}} {
		for n := 1; n <= c.deeds+1; n++ {
			d := newDisk(t, 1<<16)
			l := mustOpen(t, d, 16)
			mustAppend(t, l, []string{"one", "two"}[:c.ahead]...)
			before := viewOf(l)
			d.Arm(n)
			if n > c.deeds {
				want(t, "P5.1: Append ahead of going down", l.Append([]byte("six")), api.OK)
				want(t, "P5.1: Sync goes down", l.Sync(), api.Down)
				want(t, "P5.1: Sync of what is down", l.Sync(), api.Down)
				continue
			}
			want(t, fmt.Sprintf("P5.1: Append down at deed %d", n), l.Append([]byte("six")), api.Down)
			wantContent(t, "P5.1: Append that went down", l, before)
			d.Crash(99, 99)
			wantContent(t, "P5.3: Append that went down, opened", mustOpen(t, d, 16), before)
		}
	}
}

func TestFirstErrorOfOpen(t *testing.T) {
	gap := map[string]string{"t": "", "w0": plainFrames("x"), "w2": ""}
	d := lay(t, gap)
	d.Arm(1)
	refuses(t, "P5.1: the disk's errors come ahead of Form", d, 1, api.Down)
	refuses(t, "P5.1: Form", lay(t, gap), 1, api.Form)
}

// A frame of 3 bytes has 8, and a checkpoint of 3 bytes has 9.
func TestFullDisk(t *testing.T) {
	for room := range 40 {
		d := newDisk(t, room)
		l := mustOpen(t, d, 16)
		var wanted view
		for range room / 8 {
			mustAppend(t, l, "one")
			wanted = wanted.with("one")
		}
		want(t, fmt.Sprintf("P5.1: Append to a full disk of %d", room), l.Append([]byte("one")), api.Full)
		wantContent(t, "P5.1: a full disk", l, wanted)
		wantContent(t, "P5.1: a full disk, opened", mustOpen(t, d, 16), wanted)
		want(t, fmt.Sprintf("P5.2: Check on a full disk of %d", room), mustOpen(t, d, 16).Check([]byte("all")), api.Full)
		wantContent(t, "P5.2: Check on a full disk, opened", mustOpen(t, d, 16), wanted)
	}
}

func TestRoomOfACheckpoint(t *testing.T) {
	for room := 8; room < 24; room++ {
		d := newDisk(t, room)
		l := mustOpen(t, d, 16)
		mustAppend(t, l, "one")
		if room < 8+9 {
			want(t, fmt.Sprintf("P5.2: Check with room for %d", room), l.Check([]byte("all")), api.Full)
			wantView(t, "P5.2: Check without room, opened", mustOpen(t, d, 16), view{records: []string{"one"}, next: 1, parts: []uint64{0}})
			continue
		}
		want(t, fmt.Sprintf("P5.2: Check with room for %d", room), l.Check([]byte("all")), api.OK)
		wantView(t, "P5.2: Check with room", mustOpen(t, d, 16), view{base: 1, data: "all", next: 1})
	}
}

func TestSixtyFourParts(t *testing.T) {
	d := newDisk(t, 1<<16)
	l := mustOpen(t, d, 1)
	var wanted view
	for i := range 64 {
		mustAppend(t, l, "r")
		wanted = wanted.with("r")
		wanted.parts = append(wanted.parts, uint64(i))
	}
	want(t, "P5.1: Append of a 65th part", l.Append([]byte("r")), api.Full)
	wantView(t, "P5.1: 64 parts", l, wanted)
	wantView(t, "P5.1: 64 parts, opened", mustOpen(t, d, 1), wanted)
	want(t, "P5.2: Check beside 64 parts", l.Check(nil), api.Full)
	wantView(t, "P5.2: Check beside 64 parts, opened", mustOpen(t, d, 1), wanted)
	mustAppend(t, mustOpen(t, d, 100), "r")
}

func TestWhatIsHandedInStays(t *testing.T) {
	d := newDisk(t, 1<<16)
	l := mustOpen(t, d, 100)
	backing := []byte("record and what stands behind")
	want(t, "P5.1: Append", l.Append(backing[:6]), api.OK)
	if string(backing) != "record and what stands behind" {
		t.Errorf("R4: Append changed what was handed in: %q", backing)
	}
	copy(backing, "RECORD")
	wantView(t, "R4: a record that was changed behind Append", l, view{records: []string{"record"}, next: 1, parts: []uint64{0}})
	data := []byte("data and what stands behind")
	want(t, "P5.2: Check", l.Check(data[:4]), api.OK)
	if string(data) != "data and what stands behind" {
		t.Errorf("R4: Check changed what was handed in: %q", data)
	}
	copy(data, "DATA")
	wantView(t, "R4: data that was changed behind Check", l, view{base: 1, data: "data", next: 1})
	wantView(t, "R4: all of it on the disk", mustOpen(t, d, 100), view{base: 1, data: "data", next: 1})
}

func TestAnswersAreNewMemory(t *testing.T) {
	d := newDisk(t, 1<<16)
	made := mustOpen(t, d, 16)
	mustAppend(t, made, "zero")
	made.Check([]byte("data"))
	mustAppend(t, made, "one", "two", "three")
	for what, l := range map[string]*Log{"made": made, "opened": mustOpen(t, d, 16)} {
		before := viewOf(l)
		_, data := l.Base()
		spoil(data)
		records := l.Records()
		for _, record := range records {
			spoil(record)
		}
		if !bytes.Equal(records[1], []byte("!!!")) {
			t.Errorf("R4: records of one answer share memory: %q", records)
		}
		records[0] = nil
		_ = append(records[:1], nil, nil)
		parts := l.Parts()
		clear(parts)
		_ = append(parts[:1], 7, 7)
		wantView(t, "R4: a log that was "+what+", behind changed answers", l, before)
	}
}

// spoil changes bytes, and those behind them up to their capacity.
func spoil(b []byte) {
	size := len(b)
	for i := range b {
		b[i] = '!'
	}
	b = b[:cap(b)]
	for i := size; i < len(b); i++ {
		b[i] = '?'
	}
}

func TestTwoLogsKeepNothingInCommon(t *testing.T) {
	one, other := newDisk(t, 1<<16), newDisk(t, 1<<16)
	l, m := mustOpen(t, one, 16), mustOpen(t, other, 16)
	mustAppend(t, l, "one", "two", "three")
	wantView(t, "R6: another log", m, view{})
	mustAppend(t, m, "other")
	want(t, "P5.2: Check", l.Check([]byte("x")), api.OK)
	wantView(t, "R6: another log", m, view{records: []string{"other"}, next: 1, parts: []uint64{0}})
}

// trial runs a log and remembers each content that it had; floor is the place
// of that behind the last sync that returned.
type trial struct {
	d     *disk.Disk
	l     *Log
	limit int
	had   []view
	floor int
	count int
}

func begin(t testing.TB, room, limit int) *trial {
	d := newDisk(t, room)
	return &trial{d: d, l: mustOpen(t, d, limit), limit: limit, had: []view{{}}}
}

func (r *trial) last() view {
	return r.had[len(r.had)-1]
}

// do does what a letter tells.
func (r *trial) do(letter byte) api.Err {
	r.count++
	text := strings.Repeat(string('a'+rune(r.count%26)), r.count%5)
	switch letter {
	case 'a':
		err := r.l.Append([]byte(text))
		if err == api.OK {
			r.had = append(r.had, r.last().with(text))
		}
		return err
	case 'c':
		return r.check(text)
	case 's':
		err := r.l.Sync()
		if err == api.OK {
			r.floor = len(r.had) - 1
		}
		return err
	}
	return r.open()
}

// check looks at how far Check came: t is made, appended, synced; renamed,
// synced. From the renaming on its checkpoint was there, whatever it tells.
func (r *trial) check(data string) api.Err {
	now, before := r.last(), r.d.Deeds()
	err := r.l.Check([]byte(data))
	done := r.d.Deeds() - before
	if done >= 3 {
		r.floor = len(r.had) - 1
	}
	if done >= 4 {
		r.had = append(r.had, view{base: now.next, data: data, next: now.next})
	}
	if done >= 5 {
		r.floor = len(r.had) - 1
	}
	return err
}

func (r *trial) open() api.Err {
	l, err := Open(r.d, r.limit)
	if err == api.OK {
		r.l = l
	}
	return err
}

// resume opens behind a crash, and holds P5.3.
func (r *trial) resume(t testing.TB, what string) {
	t.Helper()
	if err := r.open(); err != api.OK {
		t.Fatalf("P5.3: %s: Open: %d", what, err)
	}
	got := viewOf(r.l).content()
	at := slices.IndexFunc(r.had[r.floor:], func(v view) bool { return same(v, got) })
	if at < 0 {
		t.Fatalf("P5.3: %s: %s was never there since the last sync", what, short(got))
	}
	if r.d.Waits() != 0 {
		t.Fatalf("P5.1: %s: %d deeds wait behind Open", what, r.d.Waits())
	}
	// What was opened lasts, so no later crash may fall behind it.
	r.had, r.floor = []view{got}, 0
}

const script = "aaasaaocaasaaaacsacoaasaa"

// Down at each deed, and each crash that can be: what waits up to each deed,
// and torn at each byte.
func TestCrashesAtEachDeed(t *testing.T) {
	for _, limit := range []int{1, 16, 1000} {
		for n := 1; goesDown(t, limit, n); n++ {
			waits := runDown(t, limit, n).d.Waits()
			for keep := 0; keep <= waits; keep++ {
				for torn := range 9 {
					r := runDown(t, limit, n)
					r.d.Crash(keep, torn)
					files := filesOn(r.d)
					what := fmt.Sprintf("limit %d, down at %d, crash %d, %d", limit, n, keep, torn)
					r.resume(t, what)
					mustAppend(t, r.l, "more")
					wantContent(t, "P5.3: "+what+", and more", mustOpen(t, r.d, limit), viewOf(r.l))
					if torn == 0 || torn == 3 {
						opensBehindCrashes(t, what, files, plainOpen(files))
					}
				}
			}
		}
	}
}

func goesDown(t *testing.T, limit, n int) bool {
	return !runDown(t, limit, n).d.Up()
}

// runDown runs the script on a disk that goes down at its n-th deed.
func runDown(t *testing.T, limit, n int) *trial {
	t.Helper()
	r := begin(t, 1<<16, limit)
	r.d.Arm(n)
	for i := range len(script) {
		err := r.do(script[i])
		if err == api.Down {
			return r
		}
		want(t, "P5.3: the script", err, api.OK)
	}
	return r
}

// A log on a disk goes on behind crash after crash.
func TestCrashesOneBehindTheOther(t *testing.T) {
	for seed := range int64(400) {
		chance := rand.New(rand.NewSource(seed))
		deeds := make([]byte, 200)
		chance.Read(deeds)
		liveThrough(t, deeds)
	}
}

// liveThrough runs a log by bytes: what it does, and when and how it crashes.
func liveThrough(t testing.TB, deeds []byte) {
	if len(deeds) < 2 {
		return
	}
	r := begin(t, 40+int(deeds[0])*8, 1+int(deeds[1])%40)
	for i, b := range deeds[2:] {
		var err api.Err
		switch {
		case b < 150:
			err = r.do('a')
		case b < 180:
			err = r.do('s')
		case b < 200:
			err = r.do('c')
		case b < 210:
			err = r.do('o')
		case b < 235:
			r.d.Arm(int(b) - 209)
		default:
			err = api.Down
		}
		if err != api.OK && err != api.Down && err != api.Full {
			t.Fatalf("P5.1: byte %d: error %d", i, err)
		}
		if err != api.OK {
			r.crash(t, i, b)
		}
	}
}

// crash loses some of what waits, and goes down within Open now and then.
func (r *trial) crash(t testing.TB, i int, b byte) {
	t.Helper()
	for down := range int(b) % 3 {
		r.d.Crash((i+down)%7, int(b)%11)
		r.d.Arm(1 + (i+int(b))%5)
		r.open()
	}
	r.d.Crash(i%7, int(b)%13)
	r.resume(t, fmt.Sprintf("byte %d", i))
}

func FuzzCrashes(f *testing.F) {
	f.Add([]byte{10, 3, 0, 0, 0, 160, 0, 0, 190, 0, 0, 240, 0, 220, 0, 190, 0})
	f.Add([]byte{0, 30, 0, 0, 0, 0, 0, 0, 0, 0, 190, 0, 0, 0, 255, 0, 0})
	f.Fuzz(func(t *testing.T, deeds []byte) {
		liveThrough(t, deeds[:min(len(deeds), 300)])
	})
}

func TestFilesOfAnyKind(t *testing.T) {
	for seed := range int64(3000) {
		chance := rand.New(rand.NewSource(seed))
		plan := make([]byte, 4+chance.Intn(30))
		chance.Read(plan)
		opens(t, fmt.Sprint("files of seed ", seed), filesBy(plan))
	}
}

// filesBy makes files that are nearly those of a log.
func filesBy(plan []byte) map[string]string {
	take := func() int {
		if len(plan) == 0 {
			return 0
		}
		b := plan[0]
		plan = plan[1:]
		return int(b)
	}
	files := map[string]string{}
	switch kind := take() % 8; kind {
	case 0, 1:
	case 2:
		files["c"] = plainFrames("\x82")
	default:
		files["c"] = plainCheckpoint(uint64(take()%12), "data"[:kind-3])
	}
	if take()%4 == 0 {
		files["t"] = "being made"
	}
	next := take() % 5
	for len(plan) > 0 {
		var records []string
		for range take() % 4 {
			records = append(records, strings.Repeat("r", take()%4))
		}
		text := plainFrames(records...)
		if take()%5 == 0 {
			text += plainFrames("tail")[:take()%8]
		}
		files[fmt.Sprint("w", next)] = text
		next += len(records)
		if take()%6 == 0 {
			next += take() % 3
		}
	}
	return files
}

func FuzzOpen(f *testing.F) {
	f.Add([]byte{0, 1, 0, 2, 1, 1, 1, 1, 2, 0, 0, 5, 1})
	f.Add([]byte{7, 4, 0, 0, 3, 1, 2, 3, 1, 1, 2, 0, 0})
	f.Fuzz(func(t *testing.T, plan []byte) {
		opens(t, "files", filesBy(plan[:min(len(plan), 40)]))
	})
}

// What stands in c and in a part may be any bytes.
func FuzzBytes(f *testing.F) {
	f.Add([]byte(plainCheckpoint(1, "x")), []byte(plainFrames("a", "b")))
	f.Add([]byte(plainCheckpoint(3, "")), []byte(plainFrames("a", "b")+"tail"))
	f.Add([]byte("c"), []byte{})
	f.Fuzz(func(t *testing.T, c, w []byte) {
		opens(t, "bytes", map[string]string{"c": string(c), "w0": string(w)})
		opens(t, "bytes", map[string]string{"c": plainFrames(string(c)), "w0": string(w), "w1": ""})
	})
}
