package disk

import (
	"bytes"
	"fmt"
	"maps"
	"math"
	"math/rand"
	"slices"
	"strings"
	"testing"

	"sorites/api"
)

var lowest, highest = math.MinInt, math.MaxInt

func newDisk(t *testing.T, room int) *Disk {
	t.Helper()
	d, err := New(room)
	if err != api.OK || d == nil {
		t.Fatalf("P3.1: New(%d): %v, %d", room, d, err)
	}
	return d
}

// want tells what a call answered where it should have answered another error.
func want(t *testing.T, what string, got, wanted api.Err) {
	t.Helper()
	if got != wanted {
		t.Errorf("%s: error %d, want %d", what, got, wanted)
	}
}

// wantFiles holds all that is seen against files: their names in order, their
// bytes, and how many these are.
func wantFiles(t *testing.T, what string, d *Disk, files map[string]string) {
	t.Helper()
	names := slices.Sorted(maps.Keys(files))
	if got := d.Names(); !slices.Equal(got, names) {
		t.Errorf("%s: Names() = %q, want %q", what, got, names)
	}
	used := 0
	for name, text := range files {
		used += len(text)
		if b, err := d.Read(name); err != api.OK || string(b) != text {
			t.Errorf("%s: Read(%q) = %q, %d, want %q", what, name, b, err, text)
		}
	}
	if got := d.Used(); got != used {
		t.Errorf("%s: Used() = %d, want %d", what, got, used)
	}
}

func wantCounts(t *testing.T, what string, d *Disk, waits, deeds int) {
	t.Helper()
	if got := d.Waits(); got != waits {
		t.Errorf("%s: Waits() = %d, want %d", what, got, waits)
	}
	if got := d.Deeds(); got != deeds {
		t.Errorf("%s: Deeds() = %d, want %d", what, got, deeds)
	}
}

// calls are all that answer an error, of names that are handed to them.
func calls(d *Disk, name, to string) map[string]func() api.Err {
	return map[string]func() api.Err{
		"Make":   func() api.Err { return d.Make(name) },
		"Append": func() api.Err { return d.Append(name, []byte("z")) },
		"Cut":    func() api.Err { return d.Cut(name, 0) },
		"Rename": func() api.Err { return d.Rename(name, to) },
		"Remove": func() api.Err { return d.Remove(name) },
		"Sync":   func() api.Err { return d.Sync() },
		"Read": func() api.Err {
			b, err := d.Read(name)
			if err != api.OK && len(b) != 0 {
				return 255
			}
			return err
		},
	}
}

func TestNewRooms(t *testing.T) {
	for _, room := range []int{0, 1, 10, 1<<30 - 1, 1 << 30} {
		d := newDisk(t, room)
		wantFiles(t, "P3.1: a new disk", d, nil)
		wantCounts(t, "P3.1: a new disk", d, 0, 0)
		if !d.Up() {
			t.Errorf("P3.2: a new disk of %d isn't up", room)
		}
	}
	for _, room := range []int{-1, lowest, 1<<30 + 1, 1 << 31, highest} {
		if d, err := New(room); err != api.Arg || d != nil {
			t.Errorf("P3.1: New(%d) = %v, %d, want Arg", room, d, err)
		}
	}
}

func TestEachDeed(t *testing.T) {
	d := newDisk(t, 100)
	want(t, "P3.1: Make", d.Make("a"), api.OK)
	wantFiles(t, "P3.1: Make", d, map[string]string{"a": ""})
	want(t, "P3.1: Append", d.Append("a", []byte("one")), api.OK)
	want(t, "P3.1: Append", d.Append("a", []byte("two")), api.OK)
	want(t, "P3.1: Append", d.Append("a", nil), api.OK)
	want(t, "P3.1: Append", d.Append("a", []byte{}), api.OK)
	wantFiles(t, "P3.1: Append", d, map[string]string{"a": "onetwo"})
	want(t, "P3.1: Cut", d.Cut("a", 4), api.OK)
	wantFiles(t, "P3.1: Cut", d, map[string]string{"a": "onet"})
	want(t, "P3.1: Append", d.Append("a", []byte("!")), api.OK)
	want(t, "P3.1: Make", d.Make("b"), api.OK)
	wantFiles(t, "P3.1: Make", d, map[string]string{"a": "onet!", "b": ""})
	want(t, "P3.1: Rename", d.Rename("a", "c"), api.OK)
	wantFiles(t, "P3.1: Rename", d, map[string]string{"b": "", "c": "onet!"})
	want(t, "P3.1: Remove", d.Remove("b"), api.OK)
	wantFiles(t, "P3.1: Remove", d, map[string]string{"c": "onet!"})
	wantCounts(t, "P3.2", d, 10, 10)
	want(t, "P3.1: Sync", d.Sync(), api.OK)
	wantCounts(t, "P3.2: Sync", d, 0, 11)
	wantFiles(t, "P3.1: Sync", d, map[string]string{"c": "onet!"})
	want(t, "P3.1: Sync of nothing", d.Sync(), api.OK)
	wantCounts(t, "P3.2: Sync of nothing", d, 0, 12)
	want(t, "P3.1: Make again", d.Make("a"), api.OK)
	wantFiles(t, "P3.1: Make again", d, map[string]string{"a": "", "c": "onet!"})
}

func TestLengthsOfNames(t *testing.T) {
	can := []string{"a", "/", "\x00", "\xff\xfe", " ", strings.Repeat("n", 15), strings.Repeat("n", 16), "eight\u00e9\u00e9\u00e9\u00e9"}
	for _, name := range can {
		d := newDisk(t, 100)
		want(t, fmt.Sprintf("P3.1: Make(%q)", name), d.Make(name), api.OK)
		for _, call := range []string{"Append", "Cut", "Read", "Rename", "Remove"} {
			want(t, fmt.Sprintf("P3.1: %s of %q", call, name), calls(d, name, name)[call](), api.OK)
		}
	}
	cant := []string{"", strings.Repeat("n", 17), strings.Repeat("\u00e9", 9), strings.Repeat("n", 1000)}
	for _, name := range cant {
		d := newDisk(t, 100)
		d.Make("a")
		for call, do := range calls(d, name, "a") {
			if call != "Sync" {
				want(t, fmt.Sprintf("P3.1: %s of %q", call, name), do(), api.Arg)
			}
		}
		want(t, fmt.Sprintf("P3.1: Rename to %q", name), d.Rename("a", name), api.Arg)
		want(t, fmt.Sprintf("P3.1: Rename of nothing to %q", name), d.Rename("none", name), api.Arg)
		want(t, fmt.Sprintf("P3.1: Rename of %q to itself", name), d.Rename(name, name), api.Arg)
		wantFiles(t, "P3.1: names that can't be", d, map[string]string{"a": ""})
	}
}

func TestSixtyFourFiles(t *testing.T) {
	d := newDisk(t, 100)
	files := map[string]string{}
	for i := range 64 {
		name := fmt.Sprint("f", i)
		files[name] = ""
		want(t, "P3.1: Make "+name, d.Make(name), api.OK)
		if i == 40 {
			d.Sync()
		}
	}
	wantFiles(t, "P3.1: 64 files", d, files)
	want(t, "P3.1: Make of one more", d.Make("more"), api.Full)
	want(t, "P3.1: Make of one that is there", d.Make("f7"), api.There)
	want(t, "P3.1: Make of a name that can't be", d.Make(""), api.Arg)
	want(t, "P3.1: Append to one of 64", d.Append("f7", []byte("x")), api.OK)
	want(t, "P3.1: Rename of one of 64", d.Rename("f7", "more"), api.OK)
	want(t, "P3.1: Make of the name that is free", d.Make("f7"), api.Full)
	want(t, "P3.1: Rename over one of 64", d.Rename("more", "f8"), api.OK)
	want(t, "P3.1: Make behind it", d.Make("f7"), api.OK)
	want(t, "P3.1: Make of one more", d.Make("more"), api.Full)
	want(t, "P3.1: Remove of one of 64", d.Remove("f0"), api.OK)
	want(t, "P3.1: Make behind it", d.Make("more"), api.OK)
	want(t, "P3.1: Make of one more", d.Make("f0"), api.Full)
}

func TestRoomIsFilled(t *testing.T) {
	for room := range 20 {
		d := newDisk(t, room)
		d.Make("a")
		d.Make("b")
		want(t, "P3.1: Append of one byte too many", d.Append("a", make([]byte, room+1)), api.Full)
		want(t, "P3.1: Append that fills the half", d.Append("a", make([]byte, room/2)), api.OK)
		want(t, "P3.1: Append of one byte too many", d.Append("b", make([]byte, room-room/2+1)), api.Full)
		want(t, "P3.1: Append that fills the room", d.Append("b", make([]byte, room-room/2)), api.OK)
		want(t, "P3.1: Append of nothing to a full disk", d.Append("a", nil), api.OK)
		want(t, "P3.1: Append of a byte to a full disk", d.Append("a", []byte("x")), api.Full)
		d.Sync()
		want(t, "P3.1: Append of a byte to a full disk", d.Append("a", []byte("x")), api.Full)
		wantCounts(t, "P3.1: of a room", d, 0, 6)
		if d.Used() != room {
			t.Errorf("P3.2: Used() = %d, want %d", d.Used(), room)
		}
	}
}

func TestRoomComesBack(t *testing.T) {
	d := newDisk(t, 4)
	d.Make("a")
	d.Make("b")
	d.Append("a", []byte("123"))
	d.Append("b", []byte("4"))
	d.Sync()
	want(t, "P3.1: Append", d.Append("b", []byte("5")), api.Full)
	d.Cut("a", 2)
	want(t, "P3.1: Append behind a cut", d.Append("b", []byte("56")), api.Full)
	want(t, "P3.1: Append behind a cut", d.Append("b", []byte("5")), api.OK)
	d.Rename("a", "b")
	wantFiles(t, "P3.1: Rename over a file", d, map[string]string{"b": "12"})
	want(t, "P3.1: Append behind a rename over a file", d.Append("b", []byte("345")), api.Full)
	want(t, "P3.1: Append behind a rename over a file", d.Append("b", []byte("34")), api.OK)
	d.Make("a")
	d.Remove("b")
	want(t, "P3.1: Append behind a remove", d.Append("a", []byte("12345")), api.Full)
	want(t, "P3.1: Append behind a remove", d.Append("a", []byte("1234")), api.OK)
	d.Crash(0, 0)
	wantFiles(t, "P3.2: Crash(0, 0)", d, map[string]string{"a": "123", "b": "4"})
}

func TestGreatestRoom(t *testing.T) {
	d := newDisk(t, 1<<30)
	d.Make("a")
	b := make([]byte, 1<<20)
	want(t, "P3.1: Append", d.Append("a", b), api.OK)
	if d.Used() != 1<<20 {
		t.Errorf("P3.2: Used() = %d", d.Used())
	}
}

func TestCutEdges(t *testing.T) {
	for n := range 6 {
		d := newDisk(t, 100)
		d.Make("a")
		d.Append("a", []byte("12345"))
		want(t, fmt.Sprintf("P3.1: Cut at %d", n), d.Cut("a", n), api.OK)
		wantFiles(t, fmt.Sprintf("P3.1: Cut at %d", n), d, map[string]string{"a": "12345"[:n]})
		want(t, fmt.Sprintf("P3.1: Cut behind a cut at %d", n), d.Cut("a", n+1), api.Arg)
		wantCounts(t, "P3.1: Cut", d, 3, 3)
	}
	d := newDisk(t, 100)
	d.Make("a")
	for _, synced := range []bool{false, true} {
		want(t, "P3.1: Cut of an empty file", d.Cut("a", 0), api.OK)
		for _, n := range []int{-1, lowest, 1, highest} {
			want(t, fmt.Sprintf("P3.1: Cut at %d, synced: %v", n, synced), d.Cut("a", n), api.Arg)
		}
		d.Sync()
	}
	for _, n := range []int{0, 1, highest} {
		want(t, fmt.Sprintf("P3.1: Cut of no file at %d", n), d.Cut("b", n), api.None)
	}
	for _, n := range []int{-1, lowest} {
		want(t, fmt.Sprintf("P3.1: Cut of no file at %d", n), d.Cut("b", n), api.Arg)
	}
}

func TestRenames(t *testing.T) {
	d := newDisk(t, 100)
	d.Make("a")
	d.Append("a", []byte("1"))
	d.Make("b")
	d.Append("b", []byte("22"))
	both := map[string]string{"a": "1", "b": "22"}
	for _, synced := range []bool{false, true} {
		waits, deeds := d.Waits(), d.Deeds()
		want(t, "P3.1: Rename to its own name", d.Rename("a", "a"), api.OK)
		wantFiles(t, fmt.Sprintf("P3.1: Rename to its own name, synced: %v", synced), d, both)
		wantCounts(t, "P3.1: Rename to its own name", d, waits+1, deeds+1)
		d.Sync()
	}
	want(t, "P3.1: Rename of no file", d.Rename("c", "a"), api.None)
	want(t, "P3.1: Rename of no file to its own name", d.Rename("c", "c"), api.None)
	want(t, "P3.1: Rename", d.Rename("a", "c"), api.OK)
	want(t, "P3.1: Rename", d.Rename("b", "a"), api.OK)
	want(t, "P3.1: Rename", d.Rename("c", "b"), api.OK)
	wantFiles(t, "P3.1: names changed", d, map[string]string{"a": "22", "b": "1"})
	want(t, "P3.1: Rename over a file", d.Rename("a", "b"), api.OK)
	wantFiles(t, "P3.1: Rename over a file", d, map[string]string{"b": "22"})
	want(t, "P3.1: Rename of what was renamed", d.Rename("a", "b"), api.None)
	d.Crash(0, 0)
	wantFiles(t, "P3.2: Crash(0, 0) behind renames", d, both)
}

func TestWhatIsNotThere(t *testing.T) {
	d := newDisk(t, 1)
	for _, gone := range []bool{false, true} {
		for _, call := range []string{"Append", "Cut", "Rename", "Remove", "Read"} {
			want(t, fmt.Sprintf("P3.1: %s, gone: %v", call, gone), calls(d, "a", "b")[call](), api.None)
		}
		want(t, "P3.1: Append of too much to no file", d.Append("a", []byte("12")), api.None)
		want(t, "P3.1: Make", d.Make("a"), api.OK)
		want(t, "P3.1: Make of what waits", d.Make("a"), api.There)
		d.Sync()
		want(t, "P3.1: Make of what lasts", d.Make("a"), api.There)
		want(t, "P3.1: Remove", d.Remove("a"), api.OK)
	}
}

func TestNilDisk(t *testing.T) {
	var d *Disk
	for _, name := range []string{"a", "", strings.Repeat("n", 17)} {
		for call, do := range calls(d, name, name) {
			want(t, fmt.Sprintf("P3.1: %s of nil", call), do(), api.Nil)
		}
	}
	want(t, "P3.1: Cut of nil", d.Cut("a", -1), api.Nil)
	d.Arm(1)
	d.Crash(1, 1)
	if l := d.Names(); len(l) != 0 {
		t.Errorf("P3.2: Names() of nil = %q", l)
	}
	if n := d.Used(); n != 0 {
		t.Errorf("P3.2: Used() of nil = %d", n)
	}
	wantCounts(t, "P3.2: of nil", d, 0, 0)
	if d.Up() {
		t.Errorf("P3.2: Up() of nil")
	}
}

func TestDiskWithoutNew(t *testing.T) {
	d := &Disk{}
	wantFiles(t, "R1: a disk that New didn't make", d, nil)
	d.Crash(1, 1)
	want(t, "R1: Sync", d.Sync(), api.OK)
	want(t, "R1: Make", d.Make("a"), api.OK)
	want(t, "R1: Append", d.Append("a", []byte("x")), api.Full)
}

// goDown has a disk of the files a and b go down.
func goDown(t *testing.T) *Disk {
	t.Helper()
	d := newDisk(t, 10)
	d.Make("a")
	d.Append("a", []byte("12"))
	d.Sync()
	d.Make("b")
	d.Arm(1)
	want(t, "P3.2: Append to an armed disk", d.Append("a", []byte("3")), api.Down)
	return d
}

func TestDownHasAllDown(t *testing.T) {
	names := []string{"a", "b", "none", "", strings.Repeat("n", 17)}
	for _, name := range names {
		for _, to := range names {
			d := goDown(t)
			for call, do := range calls(d, name, to) {
				want(t, fmt.Sprintf("P3.1: %s(%q, %q) of a disk that is down", call, name, to), do(), api.Down)
			}
		}
	}
	d := goDown(t)
	want(t, "P3.1: Cut below 0 of a disk that is down", d.Cut("a", -1), api.Down)
	want(t, "P3.1: Cut above the length of a disk that is down", d.Cut("a", 100), api.Down)
	want(t, "P3.1: Append of too much to a disk that is down", d.Append("a", make([]byte, 100)), api.Down)
	wantCounts(t, "P3.2: a disk that is down", d, 1, 4)
	if l := d.Names(); !slices.Equal(l, []string{"a", "b"}) || d.Used() != 2 {
		t.Errorf("P3.2: Names() and Used() of a disk that is down = %q, %d", l, d.Used())
	}
	if d.Up() {
		t.Errorf("P3.2: Up() of a disk that is down")
	}
}

func TestDownTillACrash(t *testing.T) {
	for _, n := range []int{lowest, -1, 0, 1, 5} {
		d := goDown(t)
		d.Arm(n)
		if d.Up() {
			t.Errorf("P3.2: Arm(%d) brings a disk up", n)
		}
		want(t, "P3.1: Sync of a disk that is down", d.Sync(), api.Down)
		d.Crash(1, 0)
		if !d.Up() {
			t.Errorf("P3.2: a crash doesn't bring a disk up")
		}
		for range 10 {
			want(t, "P3.2: Sync behind a crash", d.Sync(), api.OK)
		}
		wantFiles(t, "P3.2: Crash(1, 0)", d, map[string]string{"a": "12", "b": ""})
	}
}

func TestArmCounts(t *testing.T) {
	for n := 1; n <= 8; n++ {
		d := newDisk(t, 10)
		d.Make("a")
		d.Make("b")
		d.Sync()
		d.Arm(n)
		rights := []func() api.Err{
			func() api.Err { return d.Append("a", []byte("1")) },
			d.Sync,
			func() api.Err { return d.Cut("a", 1) },
			func() api.Err { return d.Rename("b", "b") },
			func() api.Err { return d.Rename("b", "c") },
			func() api.Err { return d.Remove("c") },
			func() api.Err { return d.Make("d") },
			d.Sync,
		}
		for i, right := range rights[:n-1] {
			wrongCalls(t, d)
			want(t, fmt.Sprintf("P3.2: call %d of Arm(%d)", i+1, n), right(), api.OK)
		}
		wrongCalls(t, d)
		waits, deeds, names, used := d.Waits(), d.Deeds(), d.Names(), d.Used()
		if !d.Up() || deeds != 3+n-1 {
			t.Errorf("P3.2: ahead of call %d of Arm(%d): Up() = %v, Deeds() = %d", n, n, d.Up(), deeds)
		}
		want(t, fmt.Sprintf("P3.2: the last call of Arm(%d)", n), rights[n-1](), api.Down)
		wantCounts(t, fmt.Sprintf("P3.1: the last call of Arm(%d) is no deed", n), d, waits, deeds)
		if !slices.Equal(d.Names(), names) || d.Used() != used {
			t.Errorf("P3.2: the last call of Arm(%d) does something", n)
		}
		if d.Up() {
			t.Errorf("P3.2: Up() behind the last call of Arm(%d)", n)
		}
		_, err := d.Read("a")
		want(t, "P3.2: Read behind it", err, api.Down)
	}
}

// wrongCalls are none that an armed disk counts: those with an error of their
// own, and those that are no deeds.
func wrongCalls(t *testing.T, d *Disk) {
	t.Helper()
	want(t, "P3.1: Make", d.Make("a"), api.There)
	want(t, "P3.1: Make", d.Make(""), api.Arg)
	want(t, "P3.1: Append", d.Append("none", nil), api.None)
	want(t, "P3.1: Append", d.Append("a", make([]byte, 11)), api.Full)
	want(t, "P3.1: Cut", d.Cut("a", 2), api.Arg)
	want(t, "P3.1: Cut", d.Cut("none", 0), api.None)
	want(t, "P3.1: Rename", d.Rename("none", "a"), api.None)
	want(t, "P3.1: Rename", d.Rename("a", ""), api.Arg)
	want(t, "P3.1: Remove", d.Remove("none"), api.None)
	_, err := d.Read("none")
	want(t, "P3.1: Read", err, api.None)
	_, err = d.Read("a")
	want(t, "P3.1: Read", err, api.OK)
	d.Names()
	d.Used()
	d.Waits()
	d.Deeds()
	d.Up()
}

func TestArmSync(t *testing.T) {
	d := newDisk(t, 10)
	d.Make("a")
	d.Arm(1)
	want(t, "P3.2: Sync of Arm(1)", d.Sync(), api.Down)
	wantCounts(t, "P3.2: Sync of Arm(1)", d, 1, 1)
	d.Crash(0, 0)
	wantFiles(t, "P3.2: a sync that went down does nothing", d, nil)
}

func TestNotArmed(t *testing.T) {
	for _, n := range []int{0, -1, lowest} {
		d := newDisk(t, 10)
		d.Arm(2)
		d.Arm(n)
		for range 10 {
			want(t, fmt.Sprintf("P3.2: Sync behind Arm(%d)", n), d.Sync(), api.OK)
		}
		if !d.Up() {
			t.Errorf("P3.2: Arm(%d): not up", n)
		}
	}
	d := newDisk(t, 10)
	d.Arm(highest)
	for range 10 {
		want(t, "P3.2: Sync behind Arm of the highest", d.Sync(), api.OK)
	}
}

func TestArmedAgain(t *testing.T) {
	d := newDisk(t, 10)
	d.Arm(3)
	d.Sync()
	d.Sync()
	d.Arm(2)
	want(t, "P3.2: Sync 1 of Arm(2)", d.Sync(), api.OK)
	want(t, "P3.2: Sync 2 of Arm(2)", d.Sync(), api.Down)
	d.Crash(0, 0)
	d.Arm(1)
	want(t, "P3.2: Sync of Arm(1) behind a crash", d.Sync(), api.Down)
}

func TestCrashDisarms(t *testing.T) {
	d := newDisk(t, 10)
	d.Arm(2)
	d.Crash(0, 0)
	for range 5 {
		want(t, "P3.2: Sync behind a crash of an armed disk", d.Sync(), api.OK)
	}
}

func TestNamesInOrder(t *testing.T) {
	d := newDisk(t, 10)
	names := []string{"w10", "b", "w9", "\xff", "B", "ab", "a", "\x00", "w1", "aa", "\u00e9"}
	for _, name := range names {
		d.Make(name)
	}
	inOrder := []string{"\x00", "B", "a", "aa", "ab", "b", "w1", "w10", "w9", "\u00e9", "\xff"}
	for range 20 {
		if got := d.Names(); !slices.Equal(got, inOrder) {
			t.Errorf("P3.2: Names() = %q, want %q", got, inOrder)
		}
	}
}

func TestExampleOfTheChapter(t *testing.T) {
	d := newDisk(t, 10)
	want(t, "P3.1: Make", d.Make("a"), api.OK)
	want(t, "P3.1: Append", d.Append("a", []byte("xy")), api.OK)
	d.Crash(1, 1)
	wantFiles(t, "P3.2: Crash(1, 1)", d, map[string]string{"a": "x"})
	wantCounts(t, "P3.2: Crash(1, 1)", d, 0, 2)
	d.Crash(0, 0)
	wantFiles(t, "P3.2: what is seen behind a crash lasts", d, map[string]string{"a": "x"})
}

// aScript has deeds of each kind wait.
func aScript(t *testing.T) *Disk {
	t.Helper()
	d := newDisk(t, 20)
	d.Make("a")
	d.Append("a", []byte("old"))
	d.Sync()
	d.Append("a", []byte("new"))
	d.Cut("a", 2)
	d.Append("a", []byte("!!"))
	d.Make("b")
	d.Append("b", []byte("1"))
	d.Rename("b", "a")
	d.Remove("a")
	wantCounts(t, "P3.2: a script", d, 7, 10)
	return d
}

func TestCrashAtEachPlace(t *testing.T) {
	known := []struct {
		keep, torn int
		files      map[string]string
	}{
		{lowest, 0, map[string]string{"a": "old"}},
		{-1, 0, map[string]string{"a": "old"}},
		{-1, 2, map[string]string{"a": "oldne"}},
		{0, lowest, map[string]string{"a": "old"}},
		{0, -1, map[string]string{"a": "old"}},
		{0, 0, map[string]string{"a": "old"}},
		{0, 1, map[string]string{"a": "oldn"}},
		{0, 3, map[string]string{"a": "oldnew"}},
		{0, 4, map[string]string{"a": "oldnew"}},
		{0, highest, map[string]string{"a": "oldnew"}},
		{1, 0, map[string]string{"a": "oldnew"}},
		{1, 2, map[string]string{"a": "oldnew"}}, // a cut isn't torn
		{2, 0, map[string]string{"a": "ol"}},
		{2, 1, map[string]string{"a": "ol!"}},
		{3, 5, map[string]string{"a": "ol!!"}}, // nor a file's being made
		{4, 0, map[string]string{"a": "ol!!", "b": ""}},
		{4, 5, map[string]string{"a": "ol!!", "b": "1"}},
		{5, 5, map[string]string{"a": "ol!!", "b": "1"}}, // nor a rename
		{6, 5, map[string]string{"a": "1"}},              // nor a remove
		{7, 0, nil},
		{7, 5, nil},
		{8, 5, nil},
		{highest, highest, nil},
	}
	for _, k := range known {
		what := fmt.Sprintf("P3.2: Crash(%d, %d)", k.keep, k.torn)
		d := aScript(t)
		d.Crash(k.keep, k.torn)
		for range 2 {
			wantFiles(t, what, d, k.files)
			wantCounts(t, what, d, 0, 10)
			d.Crash(0, 0) // what is seen lasts
		}
		if !d.Up() {
			t.Errorf("%s: not up", what)
		}
	}
}

func TestCrashChangesNoOtherFile(t *testing.T) {
	d := newDisk(t, 100)
	d.Make("a")
	d.Append("a", []byte("123456"))
	d.Sync()
	d.Cut("a", 2)
	d.Append("a", []byte("xx"))
	d.Append("a", []byte("yy"))
	wantFiles(t, "P3.1: an append behind a cut", d, map[string]string{"a": "12xxyy"})
	d.Crash(0, 0)
	wantFiles(t, "P3.3: what lasts has its bytes behind the cut", d, map[string]string{"a": "123456"})
	for range 3 {
		d.Append("a", []byte("tail"))
		d.Read("a")
		d.Crash(0, 1)
	}
	wantFiles(t, "P3.2: torn three times", d, map[string]string{"a": "123456ttt"})
}

func TestNothingIsShared(t *testing.T) {
	d := newDisk(t, 100)
	d.Make("a")
	b := append(make([]byte, 0, 10), "mine"...)
	d.Append("a", b)
	if string(b[:5]) != "mine\x00" {
		t.Errorf("R4: Append changes what it was given: %q", b[:5])
	}
	clear(b)
	for _, synced := range []bool{false, true} {
		got, _ := d.Read("a")
		clear(got[:cap(got)])
		d.Append("a", []byte("+"))
		other, _ := d.Read("a")
		if string(other[:4]) != "mine" || string(got) != "\x00\x00\x00\x00" {
			t.Errorf("R4: memory is shared, synced: %v: %q, %q", synced, other, got)
		}
		names := d.Names()
		names[0] = "changed"
		if d.Names()[0] != "a" {
			t.Errorf("R4: Names() shares memory")
		}
		d.Cut("a", 4)
		d.Sync()
	}
	wantFiles(t, "R4: nothing is shared", d, map[string]string{"a": "mine"})
}

// plain is the chapter's words another way: it holds all files as they were
// seen behind each deed since the last sync, and never does a deed again.
type plain struct {
	room, deeds, armed int
	down               bool
	states             []map[string]string
	tails              []string // what was appended between two states
}

func newPlain(room int) *plain {
	return &plain{room: room, states: []map[string]string{{}}}
}

func (p *plain) now() map[string]string {
	return maps.Clone(p.states[len(p.states)-1])
}

func (p *plain) used() int {
	n := 0
	for _, text := range p.now() {
		n += len(text)
	}
	return n
}

func (p *plain) goesDown() bool {
	if p.armed > 0 {
		p.armed--
		p.down = p.armed == 0
	}
	if !p.down {
		p.deeds++
	}
	return p.down
}

func (p *plain) sync() api.Err {
	if p.down || p.goesDown() {
		return api.Down
	}
	p.states, p.tails = []map[string]string{p.now()}, nil
	return api.OK
}

// deed asks for what is wrong in the chapter's order, and holds what is seen
// behind the deed.
func (p *plain) deed(kind int, name, to, tail string, n int) api.Err {
	files := p.now()
	text, there := files[name]
	badName := len(name) == 0 || len(name) > 16 || kind == renames && (len(to) == 0 || len(to) > 16)
	badCut := kind == cuts && (n < 0 || there && n > len(text))
	switch {
	case p.down:
		return api.Down
	case badName || badCut:
		return api.Arg
	case kind == makes && there:
		return api.There
	case kind == makes && len(files) == 64:
		return api.Full
	case kind != makes && !there:
		return api.None
	case kind == appends && p.used()+len(tail) > p.room:
		return api.Full
	case p.goesDown():
		return api.Down
	}
	switch kind {
	case makes:
		files[name] = ""
	case appends:
		files[name] = text + tail
	case cuts:
		files[name] = text[:n]
	case renames:
		delete(files, name)
		files[to] = text
	case removes:
		delete(files, name)
	}
	p.states = append(p.states, files)
	if kind != appends {
		tail = ""
	}
	p.tails = append(p.tails, name+"\x00"+tail)
	return api.OK
}

func (p *plain) crash(keep, torn int) {
	keep = max(keep, 0)
	keep = min(keep, len(p.tails))
	files := maps.Clone(p.states[keep])
	if keep < len(p.tails) {
		name, tail, _ := strings.Cut(p.tails[keep], "\x00")
		torn = min(max(torn, 0), len(tail))
		if torn > 0 {
			files[name] += tail[:torn]
		}
	}
	p.states, p.tails = []map[string]string{files}, nil
	p.armed, p.down = 0, false
}

// walk has a disk and its plain likeness do what a script's bytes tell, and
// holds them against each other behind each.
func walk(t *testing.T, room int, script []byte) {
	t.Helper()
	d, p := newDisk(t, room), newPlain(room)
	synced := map[string]string{}
	for ; len(script) >= 4; script = script[4:] {
		what := script[0] % 32
		names := []string{"a", "b", "c", "w1", "w2", "sixteen bytes it", "", "seventeen bytes.."}
		name, to := names[script[1]%8], names[script[2]%8]
		n, tail := int(int8(script[3])), strings.Repeat(string(rune('a'+script[2]%26)), int(script[3]%8))
		said := fmt.Sprintf("P3.1: %d %q %q %d", what, name, to, n)
		switch {
		case what < 5:
			want(t, said, d.Make(name), p.deed(makes, name, "", "", 0))
		case what < 14:
			want(t, said, d.Append(name, []byte(tail)), p.deed(appends, name, "", tail, 0))
		case what < 17:
			want(t, said, d.Cut(name, n/8), p.deed(cuts, name, "", "", n/8))
		case what < 20:
			want(t, said, d.Rename(name, to), p.deed(renames, name, to, "", 0))
		case what < 22:
			want(t, said, d.Remove(name), p.deed(removes, name, "", "", 0))
		case what < 26:
			err := d.Sync()
			want(t, said, err, p.sync())
			if err == api.OK {
				synced = p.now()
			}
		case what < 28:
			d.Arm(n / 8)
			p.armed = max(n/8, 0)
		default:
			crashBoth(t, d, p, synced, n/8, int(script[2]%16)-4)
			synced = p.now()
		}
		hold(t, said, d, p)
	}
}

// crashBoth looks at P3.3 beside: with nothing kept what was synced is there,
// with all kept nothing that is seen changes.
func crashBoth(t *testing.T, d *Disk, p *plain, synced map[string]string, keep, torn int) {
	t.Helper()
	seen, waits := p.now(), d.Waits()
	d.Crash(keep, torn)
	p.crash(keep, torn)
	if keep <= 0 && torn <= 0 {
		wantFiles(t, "P3.3: what was synced", d, synced)
	}
	if keep >= waits {
		wantFiles(t, "P3.3: a crash that keeps all", d, seen)
	}
}

func hold(t *testing.T, what string, d *Disk, p *plain) {
	t.Helper()
	if d.Up() == p.down {
		t.Errorf("%s: Up() = %v", what, d.Up())
	}
	wantCounts(t, what, d, len(p.tails), p.deeds)
	if p.down {
		if b, err := d.Read("a"); err != api.Down || len(b) != 0 {
			t.Errorf("%s: Read = %q, %d, want Down", what, b, err)
		}
		return
	}
	wantFiles(t, what, d, p.now())
}

func TestAgainstPlainWords(t *testing.T) {
	chance := rand.New(rand.NewSource(3))
	for i := range 300 {
		script := make([]byte, 4*(10+chance.Intn(150)))
		chance.Read(script)
		walk(t, []int{0, 1, 5, 12, 30, 200}[i%6], script)
		if t.Failed() {
			t.Fatalf("script %d: %v", i, script)
		}
	}
}

// TestSyncedIsThereBehindAnyCrash has a disk go down at each deed of a script,
// and crash in each way that there is.
func TestSyncedIsThereBehindAnyCrash(t *testing.T) {
	script := []func(d *Disk) api.Err{
		func(d *Disk) api.Err { return d.Make("t") },
		func(d *Disk) api.Err { return d.Append("t", []byte("more")) },
		func(d *Disk) api.Err { return d.Cut("t", 3) },
		func(d *Disk) api.Err { return d.Append("t", []byte("e!")) },
		func(d *Disk) api.Err { return d.Rename("t", "u") },
		func(d *Disk) api.Err { return d.Append("u", []byte("end")) },
	}
	for downAt := 1; downAt <= len(script)+1; downAt++ {
		for keep := -1; keep <= len(script)+1; keep++ {
			for torn := -1; torn <= 5; torn++ {
				d := newDisk(t, 100)
				d.Make("s")
				d.Append("s", []byte("synced"))
				d.Sync()
				d.Arm(downAt)
				for _, do := range script {
					do(d)
				}
				waits, names, used := d.Waits(), d.Names(), d.Used()
				d.Crash(keep, torn)
				if b, err := d.Read("s"); err != api.OK || string(b) != "synced" {
					t.Errorf("P3.3: down at %d, Crash(%d, %d): %q, %d", downAt, keep, torn, b, err)
				}
				if keep >= waits && (!slices.Equal(d.Names(), names) || d.Used() != used) {
					t.Errorf("P3.3: down at %d, Crash(%d, %d) of %d changes what is seen", downAt, keep, torn, waits)
				}
			}
		}
	}
}

func TestManyDeedsWait(t *testing.T) {
	d := newDisk(t, 1<<20)
	d.Make("a")
	var all []byte
	for i := range 2000 {
		b := []byte(fmt.Sprint(i, ","))
		all = append(all, b...)
		want(t, "P3.1: Append", d.Append("a", b), api.OK)
	}
	if got, err := d.Read("a"); err != api.OK || !bytes.Equal(got, all) {
		t.Errorf("P3.1: Read of 2000 appends: %d bytes, %d, want %d bytes", len(got), err, len(all))
	}
	wantCounts(t, "P3.2: 2000 appends", d, 2001, 2001)
}

func FuzzDeeds(f *testing.F) {
	f.Add(uint8(10), []byte{})
	f.Add(uint8(10), []byte{0, 0, 0, 0, 6, 0, 0, 2, 28, 0, 5, 8})
	f.Add(uint8(0), []byte{0, 0, 0, 0, 6, 0, 0, 1, 27, 0, 0, 8, 22, 0, 0, 0})
	f.Fuzz(func(t *testing.T, room uint8, script []byte) {
		walk(t, int(room), script[:min(len(script), 800)])
	})
}
