package disk_test

import (
	"math"
	"slices"
	"strconv"
	"testing"

	"daisychain/api"
	"daisychain/disk"
)

func TestP32Read(t *testing.T) {
	d := some(t)
	for name, want := range map[string]string{"a": "abcdefg", "b": "12345", "c": "xy", "e": ""} {
		if b, e := d.Read(name); e != api.OK || string(b) != want {
			t.Errorf("Read of %q: %q, %v", name, b, e)
		}
	}
	for _, name := range append([]string{"d", "A", "aa"}, otherNames...) {
		if b, e := d.Read(name); e != api.ErrName || len(b) != 0 {
			t.Errorf("Read of %q: %q, %v", name, b, e)
		}
	}
	ok(t, d.Append("f", make([]byte, 80)))
	if b, e := d.Read("f"); e != api.OK || !slices.Equal(b, make([]byte, 80)) {
		t.Error("Read of 80 bytes:", b, e)
	}
}

func TestP32Names(t *testing.T) {
	d := disk.New(0)
	if l := d.Names(); len(l) != 0 {
		t.Errorf("Names of an empty disk: %q", l)
	}
	for _, name := range []string{"b", "ab", "a", "\xff", "é", "a\x00", "B", "10", "9", " ", "aa"} {
		ok(t, d.Append(name, nil))
	}
	if l := d.Names(); !slices.Equal(l, []string{" ", "10", "9", "B", "a", "a\x00", "aa", "ab", "b", "é", "\xff"}) {
		t.Errorf("Names: %q", l)
	}
}

func TestP32Used(t *testing.T) {
	d := disk.New(20)
	used := func(want int) {
		t.Helper()
		if d.Used() != want {
			t.Error("Used is", d.Used(), "not", want)
		}
	}
	used(0)
	ok(t, d.Append("a", []byte("abcde")))
	ok(t, d.Append("b", []byte("abc")))
	used(8)
	ok(t, d.Sync("a"))
	used(8)
	ok(t, d.Cut("a", 4))
	used(7)
	ok(t, d.Append("a", []byte("xyz")))
	used(10)
	d.Crash([]int{1})
	used(5)
	ok(t, d.Append("b", []byte("12")))
	ok(t, d.Rename("b", "a"))
	used(2)
	ok(t, d.Remove("a"))
	used(0)
}

func TestP32Loose(t *testing.T) {
	d := some(t)
	for name, want := range map[string]int{"a": 3, "b": 5, "c": 0, "e": 0, "d": 0, "": 0, "\n": 0} {
		if n := d.Loose(name); n != want {
			t.Errorf("Loose of %q is %d, not %d", name, n, want)
		}
	}
}

func TestP32Crash(t *testing.T) {
	for _, c := range []struct {
		keep []int
		a, b int // how many bytes survive that were not synced
	}{
		{nil, 0, 0}, {[]int{}, 0, 0}, {[]int{0, 0}, 0, 0},
		{[]int{1}, 1, 0}, {[]int{3}, 3, 0}, {[]int{4}, 0, 0}, {[]int{5}, 1, 0}, {[]int{7, 5}, 3, 5},
		{[]int{0, 1}, 0, 1}, {[]int{0, 5}, 0, 5}, {[]int{0, 6}, 0, 0}, {[]int{2, 7}, 2, 1}, {[]int{3, 5, 9, 9, 9, 9}, 3, 5},
		{[]int{-1, 2}, 0, 2}, {[]int{2, -1}, 2, 0}, {[]int{-3, -5}, 0, 0}, {[]int{math.MinInt, math.MinInt}, 0, 0},
		{[]int{math.MaxInt, math.MaxInt}, math.MaxInt % 4, math.MaxInt % 6},
		{[]int{math.MaxInt - 1, math.MaxInt - 2}, (math.MaxInt - 1) % 4, (math.MaxInt - 2) % 6},
	} {
		d := some(t)
		given := slices.Clone(c.keep)
		d.Crash(given)
		if !slices.Equal(given, c.keep) {
			t.Error("Crash changed", c.keep, "to", given)
		}
		want := contents{"a": {"abcdefg"[:4+c.a], 0}, "b": {"12345"[:c.b], 0}, "c": {"xy", 0}, "e": {"", 0}}
		wantDisk(t, d, want)
		d.Crash([]int{1, 1, 1, 1})
		wantDisk(t, d, want)
		ok(t, d.Append("z", make([]byte, 100-d.Used())))
		wantRefusal(t, d, api.ErrFull, "Append to a full disk", func() api.Errno { return d.Append("z", []byte{1}) })
	}
	disk.New(9).Crash([]int{1, 2})
}

// The numbers go to files by the order of all names, also of those whose files are empty or synced.
func TestP32CrashOrder(t *testing.T) {
	d := disk.New(1000)
	want := contents{}
	var keep []int
	for i := 30; i >= 0; i-- { // made in no order of theirs
		name := strconv.Itoa(i)
		ok(t, d.Append(name, make([]byte, i)))
		if i%3 == 0 {
			ok(t, d.Sync(name))
		}
	}
	for k, name := range d.Names() {
		n, _ := strconv.Atoi(name)
		if n%3 != 0 {
			n = min(n, k)
		}
		want[name] = content{string(make([]byte, n)), 0}
		left := d.Loose(name) + 1
		keep = append(keep, min(k, left-1)+left)
	}
	d.Crash(keep)
	wantDisk(t, d, want)
}

func TestP32AfterCrash(t *testing.T) {
	d := some(t)
	d.Crash([]int{1})
	ok(t, d.Append("a", []byte("xyz")))
	ok(t, d.Append("b", []byte("9")))
	wantDisk(t, d, contents{"a": {"abcdexyz", 3}, "b": {"9", 1}, "c": {"xy", 0}, "e": {"", 0}})
	d.Crash([]int{2})
	wantDisk(t, d, contents{"a": {"abcdexy", 0}, "b": {"", 0}, "c": {"xy", 0}, "e": {"", 0}})
}

func TestP32Copy(t *testing.T) {
	d := some(t)
	was := of(t, d)
	c := d.Copy()
	wantDisk(t, c, was)
	ok(t, c.Append("a", []byte("other")))
	ok(t, c.Append("new", []byte("other")))
	ok(t, c.Sync("b"))
	ok(t, c.Cut("c", 0))
	ok(t, c.Remove("e"))
	wantDisk(t, d, was)
	changed := of(t, c)
	ok(t, d.Append("a", []byte("HIJKLMN")))
	ok(t, d.Rename("a", "c"))
	d.Crash(nil)
	wantDisk(t, c, changed)
	wantDisk(t, c.Copy().Copy(), changed)
	wantDisk(t, disk.New(7).Copy(), contents{})
}

// What is written behind a file of a copy does not land in that of the disk, nor the other way round.
func TestP32CopyBehind(t *testing.T) {
	d := disk.New(1000)
	whole := ""
	for range 40 {
		ok(t, d.Append("a", []byte("m")))
		whole += "m"
		one, two := d.Copy(), d.Copy()
		ok(t, one.Append("a", []byte("1")))
		ok(t, two.Append("a", []byte("2")))
		wantDisk(t, one, contents{"a": {whole + "1", len(whole) + 1}})
		wantDisk(t, two, contents{"a": {whole + "2", len(whole) + 1}})
		wantDisk(t, d, contents{"a": {whole, len(whole)}})
		ok(t, d.Append("a", []byte("3")))
		wantDisk(t, one, contents{"a": {whole + "1", len(whole) + 1}})
		whole += "3"
	}
}

// A copy has as much room as the disk.
func TestP32CopyRoom(t *testing.T) {
	c := some(t).Copy()
	wantRefusal(t, c, api.ErrFull, "Append of 87", func() api.Errno { return c.Append("a", make([]byte, 87)) })
	ok(t, c.Append("a", make([]byte, 86)))
	ok(t, c.Remove("a"))
	ok(t, c.Append("a", make([]byte, 93)))
	none := disk.New(0).Copy()
	wantRefusal(t, none, api.ErrFull, "Append of 1", func() api.Errno { return none.Append("a", []byte{1}) })
	ok(t, disk.New(1<<30).Copy().Append("a", make([]byte, 1<<20)))
}

// What is returned is new memory: the disk does not change when it does, nor it when the disk does.
func TestP32NewMemory(t *testing.T) {
	d := some(t)
	was := of(t, d)
	b, _ := d.Read("a")
	again, _ := d.Read("a")
	names, others := d.Names(), d.Names()
	clear(b[:cap(b)])
	clear(names[:cap(names)])
	if string(again) != "abcdefg" || !slices.Equal(others, []string{"a", "b", "c", "e"}) {
		t.Error("results share memory")
	}
	wantDisk(t, d, was)
	ok(t, d.Cut("a", 2))
	ok(t, d.Append("a", []byte("XXXXX")))
	ok(t, d.Remove("b"))
	if string(again) != "abcdefg" || !slices.Equal(others, []string{"a", "b", "c", "e"}) {
		t.Error("the disk's changes change results")
	}
}
