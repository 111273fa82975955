package wal_test

import (
	"errors"
	"math"
	"runtime"
	"strconv"
	"testing"

	"daisychain/api"
	"daisychain/disk"
	"daisychain/wal"
)

func TestP43Numbers(t *testing.T) {
	l, _ := fresh(t, 30)
	want := func(base, last, synced int) {
		t.Helper()
		if l.Base() != base || l.Last() != last || l.Synced() != synced {
			t.Errorf("%d, %d, %d, not %d, %d, %d", l.Base(), l.Last(), l.Synced(), base, last, synced)
		}
	}
	want(0, 0, 0)
	add(t, l, "a", "b")
	want(0, 2, 0)
	ok(t, l.Sync())
	want(0, 2, 2)
	add(t, l, "c", "d", "e")
	want(0, 5, 4)
	ok(t, l.Snap(3, nil))
	want(3, 5, 4)
	ok(t, l.Cut(3))
	want(3, 3, 3)
	add(t, l, "f")
	want(3, 4, 3)
	ok(t, l.Cut(4))
	want(3, 4, 4)
	ok(t, l.Snap(4, nil))
	want(4, 4, 4)
}

func TestP43Get(t *testing.T) {
	l, _ := fresh(t, 16)
	recs := []string{"abcde", "", "\x00\n\xff", long(4096), "z"}
	add(t, l, recs...)
	get := func(k int, want string, there bool) {
		t.Helper()
		if rec, is := l.Get(k); string(rec) != want || is != there || !is && len(rec) > 0 {
			t.Errorf("Get(%d) is %q, %v", k, rec, is)
		}
	}
	for base := range 4 {
		if base > 0 {
			ok(t, l.Snap(base, nil))
		}
		for k := -2; k < 10; k++ {
			if k > base && k <= 5 {
				get(k, recs[k-1], true)
			} else {
				get(k, "", false)
			}
		}
		get(math.MinInt, "", false)
		get(math.MaxInt, "", false)
	}
	ok(t, l.Cut(3))
	get(3, "", false)
	get(4, "", false)
	add(t, l, "new")
	get(4, "new", true)
	get(5, "", false)
}

func TestP43Snapshot(t *testing.T) {
	l, d := fresh(t, 16)
	for _, b := range []string{"", "abc", "\x00\xff\n", long(4000), ""} {
		ok(t, l.Snap(0, []byte(b)))
		if string(l.Snapshot()) != b || string(open(t, d, 16).Snapshot()) != b {
			t.Errorf("Snapshot is %q, and after Open %q, not %q", l.Snapshot(), open(t, d, 16).Snapshot(), b)
		}
	}
	if none, _ := fresh(t, 16); len(none.Snapshot()) != 0 {
		t.Errorf("Snapshot of none is %q", none.Snapshot())
	}
}

func TestP43Bad(t *testing.T) {
	other := errors.New("other")
	for _, c := range []struct {
		b    wal.Bad
		want string
	}{
		{wal.Bad{File: "snap", Err: api.ErrForm}, "snap: daisychain 2"},
		{wal.Bad{File: "", Err: api.ErrArg}, ": daisychain 1"},
		{wal.Bad{File: "log00000001", Err: other}, "log00000001: other"},
		{wal.Bad{File: "a", Err: &wal.Bad{File: "b", Err: api.ErrSum}}, "a: b: daisychain 4"},
		{wal.Bad{File: "snap"}, "snap: "},
		{wal.Bad{}, ": "},
	} {
		if c.b.Error() != c.want {
			t.Errorf("%q, not %q", c.b.Error(), c.want)
		}
		if got := c.b.Unwrap(); (got == nil) != (c.b.Err == nil) || got != nil && got != c.b.Err {
			t.Error("Unwrap:", got)
		}
	}
	// Whatever its error, telling it does not panic.
	var none *wal.Bad
	if s := (&wal.Bad{File: "x", Err: none}).Error(); s != "x: " {
		t.Errorf("%q", s)
	}
	_, err := wal.Open(diskOf(t, contents{"snap": synced("x")}, 0), 16)
	if err == nil || err.Error() != "snap: daisychain 3" || !errors.Is(err, api.ErrEnd) {
		t.Error("Open:", err)
	}
}

// What is returned is new memory, and what is given is neither changed nor kept.
func TestP43NewMemory(t *testing.T) {
	l, d := fresh(t, 16)
	whole := []byte("abcdefghijklm")
	given := whole[:3]
	ok(t, l.Append(given))
	ok(t, l.Sync())
	ok(t, l.Snap(0, whole[3:6]))
	if string(whole) != "abcdefghijklm" {
		t.Errorf("arguments changed: %q", whole)
	}
	clear(whole)
	check := func() {
		t.Helper()
		wantLog(t, l, state{0, 1, "def", []string{"abc"}})
		wantLog(t, open(t, d.Copy(), 16), state{0, 1, "def", []string{"abc"}})
	}
	check()
	for _, log := range []*wal.Log{l, open(t, d.Copy(), 16)} {
		rec, _ := log.Get(1)
		again, _ := log.Get(1)
		snapshot := log.Snapshot()
		other := log.Snapshot()
		clear(rec[:cap(rec)])
		clear(snapshot[:cap(snapshot)])
		if string(again) != "abc" || string(other) != "def" {
			t.Error("results share memory")
		}
		wantLog(t, log, state{0, 1, "def", []string{"abc"}})
		if string(append(again, "xyz"...)) != "abcxyz" || string(append(other, "xyz"...)) != "defxyz" {
			t.Error("append")
		}
		wantLog(t, log, state{0, 1, "def", []string{"abc"}})
	}
	check()
}

// What is no longer in the log is not held.
func TestP43Memory(t *testing.T) {
	l, _ := fresh(t, 1<<16)
	before := held()
	rec := make([]byte, 4096)
	for range 300 {
		for range 20 {
			ok(t, l.Append(rec))
		}
		ok(t, l.Sync())
		ok(t, l.Cut(l.Last()-10))
		ok(t, l.Snap(l.Last()-1, rec[:4000]))
	}
	if more := held() - before; more > 4<<20 {
		t.Error("a log of one record holds", more)
	}
	runtime.KeepAlive(l)
}

// Nor is the list of many records, once a snapshot covers them.
func TestP43MemoryOfMany(t *testing.T) {
	l, _ := fresh(t, 1<<16)
	before := held()
	for l.Append(nil) == api.OK {
	}
	ok(t, l.Sync())
	ok(t, l.Cut(l.Last()-2))
	ok(t, l.Snap(l.Last(), nil))
	if more := held() - before; more > 1<<20 {
		t.Error("a log of no records holds", more)
	}
	runtime.KeepAlive(l)
}

// held is how many bytes of memory are in use.
func held() int {
	runtime.GC()
	var m runtime.MemStats
	runtime.ReadMemStats(&m)
	return int(m.HeapAlloc)
}

// Many records, in many segments, are written and read soon.
func TestP43Many(t *testing.T) {
	const many = 60000
	d := disk.New(api.MaxDisk)
	l := open(t, d, 16)
	for k := 1; k <= many; k++ {
		ok(t, l.Append([]byte(strconv.Itoa(k))))
	}
	ok(t, l.Sync())
	l = open(t, d, 1<<16)
	for k := 1; k <= many; k++ {
		if rec, there := l.Get(k); !there || string(rec) != strconv.Itoa(k) {
			t.Fatalf("record %d is %q, %v", k, rec, there)
		}
	}
	ok(t, l.Snap(many/2, nil))
	ok(t, l.Cut(many/2+1))
	wantLog(t, l, state{many / 2, many/2 + 1, "", []string{strconv.Itoa(many/2 + 1)}})
}
