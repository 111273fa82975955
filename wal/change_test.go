package wal_test

import (
	"math"
	"slices"
	"testing"

	"daisychain/api"
	"daisychain/disk"
)

func TestP42Append(t *testing.T) {
	l, d := fresh(t, 1<<16)
	var recs []string
	for _, rec := range []string{"abc", "", "\x00\n\xff", long(4095), long(4096), "", "z"} {
		ok(t, l.Append([]byte(rec)))
		recs = append(recs, rec)
		all := sealed(recs...)
		wantLog(t, l, state{0, 0, "", recs}) // not synced
		wantDisk(t, d, contents{seg(1): {all, len(all)}})
	}
	ok(t, l.Append(nil))
	wantLog(t, l, state{0, 0, "", append(recs, "")})
}

func TestP42AppendTooLong(t *testing.T) {
	l, d := fresh(t, 1<<16)
	for range 2 {
		for _, n := range []int{4097, 4098, 1 << 16, 1 << 20} {
			wantRefusal(t, l, d, api.ErrFull, func() api.Errno { return l.Append(make([]byte, n)) })
		}
		add(t, l, "abc")
	}
	add(t, l, long(4096))
}

// The greatest number of a record is 10^8 - 1.
func TestP42AppendNumbers(t *testing.T) {
	d := diskOf(t, contents{"snap": synced(snap(99999997, "s"))}, 1000)
	l := open(t, d, 16)
	add(t, l, "abcdef", "ghijkl")
	wantNames(t, d, seg(99999998), seg(99999999), "snap")
	for _, rec := range []string{"", "m", long(4096), long(4097)} {
		wantRefusal(t, l, d, api.ErrFull, func() api.Errno { return l.Append([]byte(rec)) })
	}
	ok(t, l.Cut(99999998))
	add(t, l, "other")
	wantRefusal(t, l, d, api.ErrFull, func() api.Errno { return l.Append(nil) })
	ok(t, l.Sync())
	ok(t, l.Snap(99999999, nil))
	wantRefusal(t, l, d, api.ErrFull, func() api.Errno { return l.Append(nil) })
	wantLog(t, open(t, d, 1<<16), state{99999999, 99999999, "", nil})
	d = diskOf(t, contents{"snap": synced(snap(99999999, ""))}, 1000)
	l = open(t, d, 16)
	wantRefusal(t, l, d, api.ErrFull, func() api.Errno { return l.Append(nil) })
}

// A segment that no log wrote may have records beyond the numbers; what a log makes of it can be read again.
func TestP42BeyondNumbers(t *testing.T) {
	for count := range 5 {
		recs := []string{"a", "b", "c", "d"}[:count]
		d := diskOf(t, contents{"snap": synced(snap(99999998, "s")), seg(99999999): synced(sealed(recs...))}, 1000)
		l := open(t, d, 16)
		wantLog(t, l, state{99999998, 99999998 + count, "s", recs})
		if count > 0 {
			wantRefusal(t, l, d, api.ErrFull, func() api.Errno { return l.Append(nil) })
			ok(t, l.Snap(99999999, nil))
			wantLog(t, open(t, d, 16), state{99999999, 99999998 + count, "", recs[1:]})
		}
		if count > 1 {
			wantRefusal(t, l, d, api.ErrFull, func() api.Errno { return l.Snap(100000000, nil) })
			ok(t, l.Cut(99999999))
			wantLog(t, open(t, d, 16), state{99999999, 99999999, "", nil})
		}
	}
}

func TestP42AppendNoRoom(t *testing.T) {
	for room := range 60 {
		d := disk.New(room)
		l := open(t, d, 20)
		var recs []string
		for d.Used()+9 <= room {
			add(t, l, "abc")
			recs = append(recs, "abc")
		}
		// Where a new segment would begin, the last one isn't synced, either.
		wantRefusal(t, l, d, api.ErrFull, func() api.Errno { return l.Append([]byte("abc")) })
		if room-d.Used() < 6 {
			wantRefusal(t, l, d, api.ErrFull, func() api.Errno { return l.Append(nil) })
		} else {
			add(t, l, "")
			recs = append(recs, "")
		}
		ok(t, l.Sync())
		wantLog(t, open(t, d, 20), state{0, len(recs), "", recs})
	}
	// Only the exact number of bytes is enough.
	d := disk.New(4096 + 6 + 5)
	l := open(t, d, 16)
	if e := open(t, disk.New(4096+5), 16).Append(make([]byte, 4096)); e != api.ErrFull {
		t.Error(e)
	}
	add(t, l, long(4096))
	wantRefusal(t, l, d, api.ErrFull, func() api.Errno { return l.Append(nil) })
	wantNames(t, d, seg(1))
}

// The last segment gets at most size bytes, unless a single record is larger.
func TestP42AppendSegments(t *testing.T) {
	for _, c := range []struct {
		size int
		recs []string
		want []int // the first records of the segments
	}{
		{16, []string{"1234567890"}, []int{1}},
		{16, []string{"12345678901"}, []int{1}},
		{16, []string{long(4096)}, []int{1}},
		{16, []string{"", ""}, []int{1}},
		{16, []string{"1234", ""}, []int{1}},
		{16, []string{"12345", ""}, []int{1, 2}},
		{16, []string{"", "1234"}, []int{1}},
		{16, []string{"", "12345"}, []int{1, 2}},
		{17, []string{"", "12345"}, []int{1}},
		{16, []string{"12345", "12345", "12345"}, []int{1, 2, 3}},
		{16, []string{"1234567890", "", "", "", "", "", ""}, []int{1, 2, 4, 6}},
		{18, []string{"", "", "", "", "", "", ""}, []int{1, 4, 7}},
		{16, []string{long(300), "", long(300), "", ""}, []int{1, 2, 3, 4}},
		{1 << 16, []string{long(4096), "", ""}, []int{1}},
		{4102, []string{long(4096), "", long(4090)}, []int{1, 2}},
		{4101, []string{long(4096), "", long(4090), ""}, []int{1, 2, 3, 4}},
	} {
		l, d := fresh(t, c.size)
		add(t, l, c.recs...)
		want := contents{}
		for i, first := range c.want {
			if i+1 < len(c.want) { // all but the last one are synced
				want[seg(first)] = synced(sealed(c.recs[first-1 : c.want[i+1]-1]...))
			} else {
				all := sealed(c.recs[first-1:]...)
				want[seg(first)] = content{all, len(all)}
			}
		}
		wantDisk(t, d, want)
		wantLog(t, l, state{0, c.want[len(c.want)-1] - 1, "", c.recs})
		ok(t, l.Sync())
		wantLog(t, open(t, d, c.size), state{0, len(c.recs), "", c.recs})
	}
	l, d := fresh(t, 1<<16)
	for range 16 {
		add(t, l, long(4090))
	}
	wantNames(t, d, seg(1))
	add(t, l, "")
	wantNames(t, d, seg(1), seg(17))
}

// What was in the last segment is synced when a new one begins, however much of it was synced before.
func TestP42AppendSyncs(t *testing.T) {
	l, d := fresh(t, 30)
	add(t, l, "a", "b")
	ok(t, l.Sync())
	add(t, l, "c", "d")
	wantLog(t, l, state{0, 2, "", []string{"a", "b", "c", "d"}})
	add(t, l, "e")
	wantLog(t, l, state{0, 4, "", []string{"a", "b", "c", "d", "e"}})
	wantDisk(t, d, contents{seg(1): synced(sealed("a", "b", "c", "d")), seg(5): {sealed("e"), 7}})
	add(t, l, "f")
	wantLog(t, l, state{0, 4, "", []string{"a", "b", "c", "d", "e", "f"}})
}

// A last segment without bytes gets the next record, however large that is.
func TestP42AppendToEmptySegment(t *testing.T) {
	d := diskOf(t, contents{seg(1): synced(sealed("a")), seg(2): synced("x")}, 5000)
	l := open(t, d, 16)
	add(t, l, long(4096))
	wantDisk(t, d, contents{seg(1): synced(sealed("a")), seg(2): {sealed(long(4096)), 4102}})
	wantLog(t, l, state{0, 1, "", []string{"a", long(4096)}})
	add(t, l, "c")
	wantNames(t, d, seg(1), seg(2), seg(3))
	// What was cut off behind the frames doesn't count as bytes of a segment.
	d = diskOf(t, contents{seg(1): synced(sealed("a") + long(50))}, 5000)
	l = open(t, d, 16)
	add(t, l, "bc")
	wantDisk(t, d, contents{seg(1): {sealed("a", "bc"), 8}})
}

// The first segment after a snapshot without segments begins behind it.
func TestP42AppendBehindSnapshot(t *testing.T) {
	d := diskOf(t, contents{"snap": synced(snap(41, "s"))}, 1000)
	l := open(t, d, 16)
	add(t, l, "a")
	wantDisk(t, d, contents{"snap": synced(snap(41, "s")), seg(42): {sealed("a"), 7}})
	wantLog(t, l, state{41, 41, "s", []string{"a"}})
}

func TestP42Sync(t *testing.T) {
	l, d := fresh(t, 16)
	ok(t, l.Sync()) // no segments yet
	wantDisk(t, d, contents{})
	add(t, l, "abc")
	wantLog(t, l, state{0, 0, "", []string{"abc"}})
	for range 2 {
		ok(t, l.Sync())
		wantLog(t, l, state{0, 1, "", []string{"abc"}})
		wantDisk(t, d, contents{seg(1): synced(sealed("abc"))})
	}
	add(t, l, "defgh", "i", "")
	wantLog(t, l, state{0, 2, "", []string{"abc", "defgh", "i", ""}})
	ok(t, l.Sync())
	wantLog(t, l, state{0, 4, "", []string{"abc", "defgh", "i", ""}})
	wantDisk(t, d, contents{seg(1): synced(sealed("abc")), seg(2): synced(sealed("defgh")), seg(3): synced(sealed("i", ""))})
}

func TestP42Snap(t *testing.T) {
	recs := []string{"abcde", "fghij", "k", "l", "mnopq", "rstuv"}
	firsts := []int{1, 2, 3, 5, 6} // segments of at most 16 bytes
	for at := range 6 {
		for _, b := range []string{"", "s", long(4000)} {
			l, d := fresh(t, 16)
			add(t, l, recs...)
			wantLog(t, l, state{0, 5, "", recs})
			ok(t, l.Snap(at, []byte(b)))
			wantLog(t, l, state{at, 5, b, recs[at:]})
			want := contents{"snap": synced(snap(at, b)), seg(6): {sealed("rstuv"), 11}}
			for i, first := range firsts[:4] {
				if next := firsts[i+1]; next-1 > at {
					want[seg(first)] = synced(sealed(recs[first-1 : next-1]...))
				}
			}
			wantDisk(t, d, want)
			d.Crash(nil)
			wantLog(t, open(t, d, 16), state{at, 5, b, recs[at:5]})
		}
	}
}

// The last segment stays even if all of its records are at most at, and what is appended goes on in it.
func TestP42SnapOfAll(t *testing.T) {
	l, d := fresh(t, 30)
	add(t, l, "a", "b", "c", "d", "e", "f")
	ok(t, l.Sync())
	ok(t, l.Snap(6, []byte("six")))
	wantDisk(t, d, contents{"snap": synced(snap(6, "six")), seg(5): synced(sealed("e", "f"))})
	wantLog(t, l, state{6, 6, "six", nil})
	add(t, l, "g", "h", "i")
	wantLog(t, l, state{6, 8, "six", []string{"g", "h", "i"}})
	wantDisk(t, d, contents{"snap": synced(snap(6, "six")), seg(5): synced(sealed("e", "f", "g", "h")), seg(9): {sealed("i"), 7}})
	ok(t, l.Snap(6, []byte("again")))
	wantLog(t, l, state{6, 8, "again", []string{"g", "h", "i"}})
	ok(t, l.Snap(8, nil))
	wantDisk(t, d, contents{"snap": synced(snap(8, "")), seg(9): {sealed("i"), 7}})
	wantLog(t, l, state{8, 8, "", []string{"i"}})
}

// A snapshot of no records: of an empty log, or of one that has some.
func TestP42SnapOfNone(t *testing.T) {
	l, d := fresh(t, 16)
	ok(t, l.Snap(0, []byte("zero")))
	wantLog(t, l, state{0, 0, "zero", nil})
	wantDisk(t, d, contents{"snap": synced(snap(0, "zero"))})
	add(t, l, "a")
	ok(t, l.Snap(0, []byte("other")))
	wantLog(t, l, state{0, 0, "other", []string{"a"}})
	wantDisk(t, d, contents{"snap": synced(snap(0, "other")), seg(1): {sealed("a"), 7}})
	wantLog(t, open(t, d, 16), state{0, 1, "other", []string{"a"}})
}

// An empty last segment stays, and those ahead of it go.
func TestP42SnapEmptySegment(t *testing.T) {
	for at := range 4 {
		d := diskOf(t, contents{seg(1): synced(sealed("a", "b")), seg(3): synced(sealed("c")), seg(4): synced("")}, 100)
		l := open(t, d, 16)
		ok(t, l.Snap(at, []byte("s")))
		want := contents{"snap": synced(snap(at, "s")), seg(1): synced(sealed("a", "b")), seg(3): synced(sealed("c")), seg(4): synced("")}
		if at >= 2 {
			delete(want, seg(1))
		}
		if at >= 3 {
			delete(want, seg(3))
		}
		wantDisk(t, d, want)
		wantLog(t, open(t, d, 16), state{at, 3, "s", []string{"a", "b", "c"}[at:]})
	}
}

// Segments below the snapshot that are there already go with the next one.
func TestP42SnapOldSegments(t *testing.T) {
	d := diskOf(t, contents{"snap": synced(snap(3, "s")), seg(1): synced(sealed("a")), seg(2): synced(sealed("b")), seg(3): synced(sealed("c", "d")),
		seg(5): synced(sealed("e"))}, 100)
	l := open(t, d, 16)
	wantLog(t, l, state{3, 5, "s", []string{"d", "e"}})
	wantNames(t, d, seg(1), seg(2), seg(3), seg(5), "snap")
	ok(t, l.Snap(3, []byte("t")))
	wantNames(t, d, seg(3), seg(5), "snap")
	wantLog(t, l, state{3, 5, "t", []string{"d", "e"}})
}

func TestP42SnapErrors(t *testing.T) {
	l, d := fresh(t, 30)
	add(t, l, "a", "b", "c")
	ok(t, l.Sync())
	add(t, l, "d")
	for _, at := range []int{math.MinInt, -1, 4, 5, 100000000, math.MaxInt} {
		for _, n := range []int{0, 4000, 4001, 5000} { // named ahead of too many bytes
			wantRefusal(t, l, d, api.ErrArg, func() api.Errno { return l.Snap(at, make([]byte, n)) })
		}
	}
	for at := range 4 {
		for _, n := range []int{4001, 4002, 4096, 4097, 1 << 16} {
			wantRefusal(t, l, d, api.ErrFull, func() api.Errno { return l.Snap(at, make([]byte, n)) })
		}
	}
	ok(t, l.Snap(2, []byte("s")))
	for _, at := range []int{math.MinInt, -1, 0, 1, 4, 5, math.MaxInt} {
		wantRefusal(t, l, d, api.ErrArg, func() api.Errno { return l.Snap(at, nil) })
	}
	ok(t, l.Snap(2, nil))
	ok(t, l.Snap(3, nil))
	wantRefusal(t, l, d, api.ErrArg, func() api.Errno { return l.Snap(2, nil) })
	wantRefusal(t, l, d, api.ErrArg, func() api.Errno { return l.Snap(4, nil) })
	ok(t, l.Sync())
	ok(t, l.Snap(4, nil))
	empty, none := fresh(t, 16)
	wantRefusal(t, empty, none, api.ErrArg, func() api.Errno { return empty.Snap(1, nil) })
}

// The new snapshot must have room beside the old one.
func TestP42SnapNoRoom(t *testing.T) {
	for more := range 30 {
		d := diskOf(t, contents{"snap": synced(snap(1, long(20))), seg(1): synced(sealed("a", "b")), seg(3): synced(sealed("c"))}, more)
		l := open(t, d, 16)
		for _, n := range []int{0, 3, 10, 4000} {
			need := 6 + 1 + n
			if need > more {
				wantRefusal(t, l, d, api.ErrFull, func() api.Errno { return l.Snap(2, make([]byte, n)) })
			}
		}
		if more >= 7 {
			b := long(more - 7)
			ok(t, l.Snap(2, []byte(b)))
			wantLog(t, l, state{2, 3, b, []string{"c"}})
			wantDisk(t, d, contents{"snap": synced(snap(2, b)), seg(3): synced(sealed("c"))})
		}
	}
}

func TestP42Cut(t *testing.T) {
	recs := []string{"abcde", "fghij", "k", "l", "mnopq", "rstuv"}
	firsts := []int{1, 2, 3, 5, 6} // segments of at most 16 bytes
	for base := range 6 {
		for last := base; last <= 6; last++ {
			l, d := fresh(t, 16)
			add(t, l, recs...)
			want := contents{}
			if base > 0 {
				ok(t, l.Snap(base, []byte("s")))
				want["snap"] = synced(snap(base, "s"))
			}
			names := d.Names()
			ok(t, l.Cut(last))
			wantLog(t, l, state{base, last, string(l.Snapshot()), recs[base:last]})
			for i, first := range firsts {
				if end := append(firsts, 7)[i+1] - 1; first <= last && slices.Contains(names, seg(first)) {
					want[seg(first)] = synced(sealed(recs[first-1 : min(end, last)]...))
				}
			}
			wantDisk(t, d, want)
			again := open(t, d.Copy(), 16)
			wantLog(t, again, stateOf(t, l))
			// It goes on behind what is left.
			add(t, l, "new", "newer")
			ok(t, l.Sync())
			wantLog(t, open(t, d, 16), state{base, last + 2, string(l.Snapshot()), append(append([]string(nil), recs[base:last]...), "new", "newer")})
		}
	}
}

// Cut syncs everything, also where it removes nothing.
func TestP42CutSyncs(t *testing.T) {
	for last := range 5 {
		l, d := fresh(t, 1<<16)
		add(t, l, "a", "b")
		ok(t, l.Sync())
		add(t, l, "c", "d")
		ok(t, l.Cut(last))
		recs := []string{"a", "b", "c", "d"}[:last]
		wantLog(t, l, state{0, last, "", recs})
		if last > 0 {
			wantDisk(t, d, contents{seg(1): synced(sealed(recs...))})
		}
		d.Crash(nil)
		wantLog(t, open(t, d, 16), state{0, last, "", recs})
	}
	l, d := fresh(t, 16)
	ok(t, l.Cut(0))
	wantLog(t, l, state{})
	wantDisk(t, d, contents{})
}

// A last segment without records does not stay where its number no longer fits.
func TestP42CutEmptySegment(t *testing.T) {
	for last := range 4 {
		d := diskOf(t, contents{seg(1): synced(sealed("a", "b", "c")), seg(4): synced("")}, 100)
		l := open(t, d, 16)
		ok(t, l.Cut(last))
		recs := []string{"a", "b", "c"}[:last]
		wantLog(t, l, state{0, last, "", recs})
		wantLog(t, open(t, d.Copy(), 16), state{0, last, "", recs})
		add(t, l, "new")
		ok(t, l.Sync())
		wantLog(t, open(t, d, 16), state{0, last + 1, "", append(append([]string(nil), recs...), "new")})
	}
}

// Records that the snapshot covers stay in their segment, ahead of where it is cut.
func TestP42CutBehindSnapshot(t *testing.T) {
	for last := 3; last <= 6; last++ {
		l, d := fresh(t, 1<<16)
		add(t, l, "a", "", "c", "dd", "eee", "ffff")
		ok(t, l.Sync())
		ok(t, l.Snap(3, []byte("s")))
		ok(t, l.Cut(last))
		recs := []string{"dd", "eee", "ffff"}[:last-3]
		wantLog(t, l, state{3, last, "s", recs})
		wantDisk(t, d, contents{"snap": synced(snap(3, "s")), seg(1): synced(sealed(append([]string{"a", "", "c"}, recs...)...))})
		wantLog(t, open(t, d, 16), state{3, last, "s", recs})
	}
}

// A segment that was cut has as much room as its bytes leave.
func TestP42CutThenAppend(t *testing.T) {
	l, d := fresh(t, 24)
	add(t, l, "123456", "7890", "abc")
	wantNames(t, d, seg(1), seg(3))
	ok(t, l.Cut(1))
	add(t, l, "123456", "x")
	wantDisk(t, d, contents{seg(1): synced(sealed("123456", "123456")), seg(3): {sealed("x"), 7}})
	wantLog(t, l, state{0, 2, "", []string{"123456", "123456", "x"}})
}

func TestP42CutErrors(t *testing.T) {
	l, d := fresh(t, 30)
	for _, last := range []int{math.MinInt, -1, 1, 2, math.MaxInt} {
		wantRefusal(t, l, d, api.ErrArg, func() api.Errno { return l.Cut(last) })
	}
	add(t, l, "a", "b", "c")
	ok(t, l.Sync())
	ok(t, l.Snap(2, nil))
	add(t, l, "d", "e", "f")
	for _, last := range []int{math.MinInt, -1, 0, 1, 7, 8, 100000000, math.MaxInt} {
		wantRefusal(t, l, d, api.ErrArg, func() api.Errno { return l.Cut(last) })
	}
	ok(t, l.Cut(5))
	wantRefusal(t, l, d, api.ErrArg, func() api.Errno { return l.Cut(6) })
	ok(t, l.Cut(2))
	wantRefusal(t, l, d, api.ErrArg, func() api.Errno { return l.Cut(3) })
}

// Room that is given back can be used again.
func TestP42RoomAgain(t *testing.T) {
	d := disk.New(100)
	l := open(t, d, 16)
	for range 50 {
		for l.Append([]byte("abcdefgh")) == api.OK {
		}
		ok(t, l.Cut(l.Base()+2))
		ok(t, l.Snap(l.Last(), []byte("s")))
	}
	if l.Base() != 100 || d.Used() != 8+14 {
		t.Error("Base is", l.Base(), "and", d.Used(), "bytes are used")
	}
}
