package disk_test

import (
	"bytes"
	"maps"
	"math"
	"slices"
	"strings"
	"testing"

	"daisychain/api"
	"daisychain/disk"
)

// content is what a file has: all its bytes, and how many of them are not synced.
type content struct {
	bytes string
	loose int
}

// contents are what all files have.
type contents map[string]content

// of is what a disk has, as its queries tell it.
func of(t testing.TB, d *disk.Disk) contents {
	t.Helper()
	c := contents{}
	for _, name := range d.Names() {
		b, e := d.Read(name)
		if e != api.OK {
			t.Fatalf("Read of %q, which is in Names: %v", name, e)
		}
		c[name] = content{string(b), d.Loose(name)}
	}
	return c
}

// wantDisk checks what a disk has: its files, and how many bytes they have.
func wantDisk(t testing.TB, d *disk.Disk, want contents) {
	t.Helper()
	if got := of(t, d); !maps.Equal(got, want) {
		t.Fatalf("the disk has %v, not %v", got, want)
	}
	if names := d.Names(); !slices.Equal(names, slices.Sorted(maps.Keys(want))) {
		t.Fatalf("Names are %q", names)
	}
	used := 0
	for _, c := range want {
		used += len(c.bytes)
	}
	if d.Used() != used {
		t.Fatal("Used is", d.Used(), "not", used)
	}
}

// ok checks that there is no error.
func ok(t testing.TB, e api.Errno) {
	t.Helper()
	if e != api.OK {
		t.Fatal(e)
	}
}

// wantRefusal checks that a call returns an error, and changes nothing.
func wantRefusal(t testing.TB, d *disk.Disk, want api.Errno, call string, do func() api.Errno) {
	t.Helper()
	before := of(t, d)
	if e := do(); e != want {
		t.Errorf("%s: %v, not %v", call, e, want)
	}
	wantDisk(t, d, before)
}

// some is a disk of 100 bytes, on which 14 are used.
func some(t testing.TB) *disk.Disk {
	t.Helper()
	d := disk.New(100)
	ok(t, d.Append("a", []byte("abcd")))
	ok(t, d.Sync("a"))
	ok(t, d.Append("a", []byte("efg")))
	ok(t, d.Append("b", []byte("12345")))
	ok(t, d.Append("c", []byte("xy")))
	ok(t, d.Sync("c"))
	ok(t, d.Append("e", nil))
	wantDisk(t, d, contents{"a": {"abcdefg", 3}, "b": {"12345", 5}, "c": {"xy", 0}, "e": {"", 0}})
	return d
}

// validNames and otherNames are names that a file may have, and such that none may.
var (
	validNames = []string{"a", "log00000001", " ", ".", "/", "a/b", "\x00", "\xff", "\r", "\t", "\x0b", "\x09\x0b", strings.Repeat("n", 31),
		strings.Repeat("n", 32), strings.Repeat("\x00", 32), strings.Repeat("é", 16)}
	otherNames = []string{"", "\n", "a\n", "\na", "a\nb", strings.Repeat("n", 31) + "\n", strings.Repeat("n", 33), strings.Repeat("é", 17),
		strings.Repeat("é", 16) + "a", strings.Repeat("n", 1000), "\r\n"}
)

func TestP31New(t *testing.T) {
	for _, c := range []struct{ room, want int }{
		{math.MinInt, 0}, {-1, 0}, {0, 0}, {1, 1}, {2, 2}, {1000, 1000},
		{1<<20 - 1, 1<<20 - 1}, {1 << 20, 1 << 20}, {1<<20 + 1, 1 << 20}, {1 << 21, 1 << 20}, {math.MaxInt, 1 << 20},
	} {
		d := disk.New(c.room)
		wantDisk(t, d, contents{})
		if e := d.Append("a", make([]byte, c.want+1)); e != api.ErrFull {
			t.Error("New of", c.room, ": Append of one byte more:", e)
		}
		wantDisk(t, d, contents{})
		if e := d.Append("a", make([]byte, c.want)); e != api.OK || d.Used() != c.want {
			t.Error("New of", c.room, ": Append of all that there is room for:", e)
		}
		if e := d.Append("b", []byte{1}); e != api.ErrFull {
			t.Error("New of", c.room, ": Append to a full disk:", e)
		}
	}
}

func TestP31Append(t *testing.T) {
	d := disk.New(20)
	ok(t, d.Append("b", []byte("abc")))
	wantDisk(t, d, contents{"b": {"abc", 3}})
	ok(t, d.Append("b", []byte{0, 10, 255}))
	wantDisk(t, d, contents{"b": {"abc\x00\n\xff", 6}})
	ok(t, d.Sync("b"))
	ok(t, d.Append("b", []byte("de")))
	wantDisk(t, d, contents{"b": {"abc\x00\n\xffde", 2}})
	ok(t, d.Append("b", nil))
	ok(t, d.Append("a", []byte("1")))
	wantDisk(t, d, contents{"a": {"1", 1}, "b": {"abc\x00\n\xffde", 2}})
}

func TestP31AppendNoBytes(t *testing.T) {
	d := disk.New(0)
	ok(t, d.Append("a", nil))
	ok(t, d.Append("b", []byte{}))
	wantDisk(t, d, contents{"a": {}, "b": {}})
	wantRefusal(t, d, api.ErrFull, "Append where there is no room at all", func() api.Errno { return d.Append("c", []byte{1}) })
	wantRefusal(t, d, api.ErrFull, "Append to an empty file, no room", func() api.Errno { return d.Append("a", []byte{1}) })
	d = disk.New(3)
	ok(t, d.Append("a", []byte("123")))
	ok(t, d.Append("b", nil))
	ok(t, d.Append("a", nil))
	wantDisk(t, d, contents{"a": {"123", 3}, "b": {}})
}

func TestP31AppendNames(t *testing.T) {
	d := disk.New(100)
	want := contents{}
	for i, name := range validNames {
		ok(t, d.Append(name, []byte{byte(i)}))
		want[name] = content{string([]byte{byte(i)}), 1}
		wantDisk(t, d, want)
	}
	for _, name := range otherNames {
		wantRefusal(t, d, api.ErrArg, "Append to "+name, func() api.Errno { return d.Append(name, []byte{1}) })
		wantRefusal(t, d, api.ErrArg, "Append of nothing to "+name, func() api.Errno { return d.Append(name, nil) })
		wantRefusal(t, d, api.ErrArg, "Append of too many bytes to "+name, func() api.Errno { return d.Append(name, make([]byte, 200)) })
	}
}

func TestP31AppendFull(t *testing.T) {
	d := some(t)
	for _, n := range []int{87, 88, 1000, 1 << 20} {
		for _, name := range []string{"a", "e", "new"} {
			wantRefusal(t, d, api.ErrFull, "Append of too many bytes to "+name, func() api.Errno { return d.Append(name, make([]byte, n)) })
		}
	}
	ok(t, d.Append("new", make([]byte, 85)))
	wantRefusal(t, d, api.ErrFull, "Append of two, room for one", func() api.Errno { return d.Append("a", []byte("hi")) })
	ok(t, d.Append("a", []byte("h")))
	wantRefusal(t, d, api.ErrFull, "Append of one, no room", func() api.Errno { return d.Append("a", []byte("i")) })
	if b, _ := d.Read("a"); string(b) != "abcdefgh" || d.Used() != 100 {
		t.Errorf("%q, %d used", b, d.Used())
	}
}

func TestP31Sync(t *testing.T) {
	d := some(t)
	ok(t, d.Sync("a"))
	wantDisk(t, d, contents{"a": {"abcdefg", 0}, "b": {"12345", 5}, "c": {"xy", 0}, "e": {"", 0}})
	ok(t, d.Sync("b"))
	ok(t, d.Sync("b"))
	ok(t, d.Sync("e"))
	wantDisk(t, d, contents{"a": {"abcdefg", 0}, "b": {"12345", 0}, "c": {"xy", 0}, "e": {"", 0}})
	for _, name := range append([]string{"d", "A", "aa"}, otherNames...) {
		wantRefusal(t, d, api.ErrName, "Sync of "+name, func() api.Errno { return d.Sync(name) })
	}
}

func TestP31Cut(t *testing.T) {
	for n := range 8 {
		d := some(t)
		ok(t, d.Cut("a", n))
		wantDisk(t, d, contents{"a": {"abcdefg"[:n], 0}, "b": {"12345", 5}, "c": {"xy", 0}, "e": {"", 0}})
		ok(t, d.Append("a", []byte("hi")))
		wantDisk(t, d, contents{"a": {"abcdefg"[:n] + "hi", 2}, "b": {"12345", 5}, "c": {"xy", 0}, "e": {"", 0}})
		ok(t, d.Append("new", make([]byte, 100-9-n)))
		wantRefusal(t, d, api.ErrFull, "Append to a full disk", func() api.Errno { return d.Append("new", []byte{1}) })
	}
	d := some(t)
	ok(t, d.Cut("e", 0))
	ok(t, d.Cut("c", 2))
	wantDisk(t, d, of(t, some(t)))
}

func TestP31CutErrors(t *testing.T) {
	d := some(t)
	for _, name := range append([]string{"d", "A"}, otherNames...) {
		for _, n := range []int{0, -1, 1, math.MaxInt} {
			wantRefusal(t, d, api.ErrName, "Cut of "+name, func() api.Errno { return d.Cut(name, n) })
		}
	}
	for _, n := range []int{-1, math.MinInt, 8, 100, 101, math.MaxInt} {
		wantRefusal(t, d, api.ErrArg, "Cut of a", func() api.Errno { return d.Cut("a", n) })
	}
	wantRefusal(t, d, api.ErrArg, "Cut of an empty file", func() api.Errno { return d.Cut("e", 1) })
}

func TestP31Remove(t *testing.T) {
	d := some(t)
	ok(t, d.Remove("a"))
	wantDisk(t, d, contents{"b": {"12345", 5}, "c": {"xy", 0}, "e": {"", 0}})
	wantRefusal(t, d, api.ErrName, "Remove of what was removed", func() api.Errno { return d.Remove("a") })
	ok(t, d.Remove("e"))
	ok(t, d.Append("a", nil))
	wantDisk(t, d, contents{"a": {}, "b": {"12345", 5}, "c": {"xy", 0}})
	ok(t, d.Append("a", make([]byte, 93)))
	wantRefusal(t, d, api.ErrFull, "Append to a full disk", func() api.Errno { return d.Append("a", []byte{1}) })
	ok(t, d.Remove("a"))
	ok(t, d.Remove("b"))
	ok(t, d.Remove("c"))
	wantDisk(t, d, contents{})
	for _, name := range append([]string{"a", "d"}, otherNames...) {
		wantRefusal(t, d, api.ErrName, "Remove of "+name, func() api.Errno { return d.Remove(name) })
	}
}

func TestP31Rename(t *testing.T) {
	for _, c := range []struct {
		from, to string
		want     contents
	}{
		{"a", "new", contents{"new": {"abcdefg", 0}, "b": {"12345", 5}, "c": {"xy", 0}, "e": {"", 0}}},
		{"a", "b", contents{"b": {"abcdefg", 0}, "c": {"xy", 0}, "e": {"", 0}}},
		{"b", "a", contents{"a": {"12345", 0}, "c": {"xy", 0}, "e": {"", 0}}},
		{"c", "b", contents{"a": {"abcdefg", 3}, "b": {"xy", 0}, "e": {"", 0}}},
		{"e", "a", contents{"a": {"", 0}, "b": {"12345", 5}, "c": {"xy", 0}}},
		{"a", "e", contents{"b": {"12345", 5}, "c": {"xy", 0}, "e": {"abcdefg", 0}}},
		{"a", "a", contents{"a": {"abcdefg", 3}, "b": {"12345", 5}, "c": {"xy", 0}, "e": {"", 0}}},
		{"e", "e", contents{"a": {"abcdefg", 3}, "b": {"12345", 5}, "c": {"xy", 0}, "e": {"", 0}}},
	} {
		d := some(t)
		ok(t, d.Rename(c.from, c.to))
		wantDisk(t, d, c.want)
		if c.from != c.to {
			wantRefusal(t, d, api.ErrName, "Rename once more", func() api.Errno { return d.Rename(c.from, c.to) })
		}
		ok(t, d.Append("z", make([]byte, 100-d.Used())))
		wantRefusal(t, d, api.ErrFull, "Append to a full disk", func() api.Errno { return d.Append("z", []byte{1}) })
	}
}

func TestP31RenameNames(t *testing.T) {
	d := disk.New(10)
	ok(t, d.Append("from", []byte("abc")))
	from := "from"
	for _, to := range validNames {
		ok(t, d.Rename(from, to))
		wantDisk(t, d, contents{to: {"abc", 0}})
		from = to
	}
	ok(t, d.Append(from, []byte("d")))
	for _, to := range otherNames {
		wantRefusal(t, d, api.ErrArg, "Rename to "+to, func() api.Errno { return d.Rename(from, to) })
		wantRefusal(t, d, api.ErrName, "Rename of no file to "+to, func() api.Errno { return d.Rename("none", to) })
		wantRefusal(t, d, api.ErrName, "Rename of "+to, func() api.Errno { return d.Rename(to, "new") })
		wantRefusal(t, d, api.ErrName, "Rename of "+to+" to itself", func() api.Errno { return d.Rename(to, to) })
	}
	wantRefusal(t, d, api.ErrName, "Rename of no file to itself", func() api.Errno { return d.Rename("none", "none") })
	wantRefusal(t, d, api.ErrName, "Rename of no file to one", func() api.Errno { return d.Rename("none", from) })
}

// A file with a new name goes on by that name alone.
func TestP31AppendAfterRename(t *testing.T) {
	d := some(t)
	ok(t, d.Rename("a", "b"))
	ok(t, d.Append("a", []byte("new")))
	ok(t, d.Append("b", []byte("h")))
	wantDisk(t, d, contents{"a": {"new", 3}, "b": {"abcdefgh", 1}, "c": {"xy", 0}, "e": {"", 0}})
}

// An argument is neither changed nor kept.
func TestP31Arguments(t *testing.T) {
	d := disk.New(100)
	whole := []byte("abcdefgh")
	ok(t, d.Append("a", whole[:2]))
	ok(t, d.Append("a", whole[4:6]))
	if !bytes.Equal(whole, []byte("abcdefgh")) {
		t.Errorf("an argument changed: %q", whole)
	}
	clear(whole)
	wantDisk(t, d, contents{"a": {"abef", 4}})
	ok(t, d.Cut("a", 1))
	ok(t, d.Append("a", []byte("xyz")))
	if !bytes.Equal(whole, make([]byte, 8)) {
		t.Errorf("an argument changed: %q", whole)
	}
}
