package wal_test

import (
	"errors"
	"maps"
	"math"
	"strings"
	"testing"

	"daisychain/api"
	"daisychain/disk"
	"daisychain/wal"
)

func TestP41OpenEmpty(t *testing.T) {
	d := disk.New(100)
	l := open(t, d, 16)
	wantLog(t, l, state{})
	wantDisk(t, d, contents{})
	add(t, l, "abc") // the disk is retained: it has what the log has
	wantDisk(t, d, contents{seg(1): {sealed("abc"), 9}})
	none := disk.New(0)
	wantLog(t, open(t, none, 16), state{})
	wantDisk(t, none, contents{})
}

func TestP41Arguments(t *testing.T) {
	bad := contents{"snap": synced("x"), "logx": synced("y"), "snap.new": synced("z")}
	for _, size := range []int{math.MinInt, -1, 0, 1, 15, 1<<16 + 1, math.MaxInt} {
		wantBad(t, diskOf(t, nil, 9), size, "", api.ErrArg)
		wantBad(t, diskOf(t, bad, 9), size, "", api.ErrArg) // named ahead of what is amiss with the files
	}
	for _, size := range []int{-1, 15, 16, 100, 1 << 16, 1<<16 + 1} {
		l, err := wal.Open(nil, size)
		var b *wal.Bad
		if l != nil || !errors.As(err, &b) || b.File != "" || !errors.Is(err, api.ErrArg) {
			t.Error("Open of no disk:", l, err)
		}
	}
	for _, size := range []int{16, 17, 1<<16 - 1, 1 << 16} {
		open(t, diskOf(t, nil, 9), size)
	}
}

func TestP41Snap(t *testing.T) {
	for _, c := range []struct {
		at int
		b  string
	}{
		{0, ""}, {0, "abc"}, {1, "abc"}, {127, ""}, {128, "\x00\xff\n"}, {300, long(4000)}, {300, long(4094)},
		{99999999, ""}, {99999999, long(4092)}, {99999998, "x"},
	} {
		d := diskOf(t, contents{"snap": synced(snap(c.at, c.b))}, 9)
		before := of(d)
		wantLog(t, open(t, d, 16), state{base: c.at, synced: c.at, snapshot: c.b})
		wantDisk(t, d, before)
	}
}

// badSnaps are files that are no snapshots, and why.
func badSnaps() map[string]api.Errno {
	good := snap(7, "abc")
	other := good[:3] + "\xff" + good[4:]
	return map[string]api.Errno{
		"":                         api.ErrEnd,
		"x":                        api.ErrEnd,
		good[:5]:                   api.ErrEnd,
		good[:len(good)-1]:         api.ErrEnd,
		"\x01\x10\x00\x00\x00\x00": api.ErrForm,
		other:                      api.ErrSum,
		other + "x":                api.ErrSum,
		other + good:               api.ErrSum,
		good + "x":                 api.ErrForm,
		good + good:                api.ErrForm,
		sealed("", ""):             api.ErrForm,
		sealed(""):                 api.ErrForm,
		sealed("\x80"):             api.ErrForm,
		sealed("\x80\x00"):         api.ErrForm,
		sealed(strings.Repeat("\xff", 9) + "\x01"): api.ErrForm,
		snap(100000000, ""):                        api.ErrForm,
		snap(100000000, "abc"):                     api.ErrForm,
		snap(100000001, ""):                        api.ErrForm,
		snap(math.MaxInt, ""):                      api.ErrForm,
	}
}

func TestP41BadSnap(t *testing.T) {
	for b, e := range badSnaps() {
		wantBad(t, diskOf(t, contents{"snap": synced(b)}, 9), 16, "snap", e)
		wantBad(t, diskOf(t, contents{"snap": {b, len(b)}, "snap.new": synced(b)}, 9), 16, "snap", e)
		// It is named ahead of what is amiss with a segment.
		wantBad(t, diskOf(t, contents{"snap": synced(b), "log": synced("x"), "loga": synced("y")}, 9), 16, "snap", e)
	}
}

func TestP41SegmentNames(t *testing.T) {
	for _, name := range []string{"log", "logs", "log ", "log1", "log0000001", "log000000001", "log00000001 ", "log 0000001", "log+0000001",
		"log-0000001", "log0000000a", "logaaaaaaaa", "log0000000:", "log0000001/", "log0000_001", "log00000000.", "log0000000\xff",
		"log٣٣٣٣", "log٣٣٣٣٣٣٣٣", "log\x00\x00\x00\x00\x00\x00\x00\x01", "log00000001.new", "log.new"} {
		wantBad(t, diskOf(t, contents{name: synced("")}, 9), 16, name, api.ErrForm)
		wantBad(t, diskOf(t, contents{name: synced(sealed("a"))}, 9), 16, name, api.ErrForm)
		wantBad(t, diskOf(t, contents{name: synced("x")}, 9), 16, name, api.ErrForm)
		// Nor with the snapshot that its number would follow, if what it has in place of digits were taken for such.
		number := 0
		for _, digit := range name[len("log"):] {
			number = 10*number + int(digit-'0')
		}
		if number > 0 && number <= 100000000 {
			files := contents{"snap": synced(snap(number-1, "s")), name: synced("")}
			wantBad(t, diskOf(t, files, 9), 16, name, api.ErrForm)
		}
	}
}

// The first error is that of the first segment in the order of the names.
func TestP41FirstBadSegment(t *testing.T) {
	good, torn := synced(sealed("a")), synced("x")
	for _, c := range []struct {
		files contents
		file  string
		e     api.Errno
	}{
		{contents{"log": good, seg(1): torn, seg(5): good}, "log", api.ErrForm},
		{contents{"log!": torn, "logx": torn}, "log!", api.ErrForm},
		{contents{seg(1): torn, "logx": good}, seg(1), api.ErrEnd}, // not the last one: another one follows
		{contents{seg(1): good, "logx": good, "logy": good}, "logx", api.ErrForm},
		{contents{seg(1): good, seg(2): torn, seg(4): good}, seg(2), api.ErrEnd},
		{contents{seg(1): good, seg(3): torn, seg(4): good}, seg(3), api.ErrForm},
		{contents{"snap": synced(snap(5, "")), seg(1): good, seg(2): good, seg(9): good}, seg(9), api.ErrForm},
		{contents{"snap": synced(snap(5, "")), seg(1): good, seg(2): torn, seg(3): good}, seg(2), api.ErrEnd},
	} {
		wantBad(t, diskOf(t, c.files, 9), 16, c.file, c.e)
	}
}

func TestP41FirstSegment(t *testing.T) {
	for base := range 5 {
		for first := range 9 {
			d := diskOf(t, contents{"snap": synced(snap(base, "s")), seg(first): synced(sealed("a", "b", "c", "d", "e"))}, 9)
			if first == 0 || first > base+1 {
				wantBad(t, d, 16, seg(first), api.ErrForm)
				continue
			}
			recs := []string{"a", "b", "c", "d", "e"}[base+1-first:]
			wantLog(t, open(t, d, 16), state{base, base + len(recs), "s", recs})
		}
	}
	for first, want := range []api.Errno{api.ErrForm, api.OK, api.ErrForm} { // without a snapshot
		d := diskOf(t, contents{seg(first): synced(sealed("a"))}, 9)
		if want != api.OK {
			wantBad(t, d, 16, seg(first), want)
			continue
		}
		wantLog(t, open(t, d, 16), state{0, 1, "", []string{"a"}})
	}
	// The greatest numbers.
	d := diskOf(t, contents{"snap": synced(snap(99999998, "")), seg(99999999): synced(sealed("z"))}, 9)
	wantLog(t, open(t, d, 16), state{99999998, 99999999, "", []string{"z"}})
	wantBad(t, diskOf(t, contents{"snap": synced(snap(99999997, "")), seg(99999999): synced("")}, 9), 16, seg(99999999), api.ErrForm)
}

func TestP41NextSegments(t *testing.T) {
	for second := 1; second < 8; second++ {
		for third := second + 1; third < 8; third++ {
			d := diskOf(t, contents{seg(1): synced(sealed("a", "", "c")), seg(second): synced(sealed("d")), seg(third): synced(sealed("e", "f"))}, 9)
			switch {
			case second == 1: // the same file: it has one record
				if third == 2 {
					wantLog(t, open(t, d, 16), state{0, 3, "", []string{"d", "e", "f"}})
				} else {
					wantBad(t, d, 16, seg(third), api.ErrForm)
				}
			case second != 4:
				wantBad(t, d, 16, seg(second), api.ErrForm)
			case third != 5:
				wantBad(t, d, 16, seg(third), api.ErrForm)
			default:
				wantLog(t, open(t, d, 16), state{0, 6, "", []string{"a", "", "c", "d", "e", "f"}})
			}
		}
	}
	// Where a segment has no records, none can follow it.
	wantBad(t, diskOf(t, contents{seg(1): synced(""), seg(2): synced(sealed("a"))}, 9), 16, seg(2), api.ErrForm)
	// What is below the snapshot is held to the same.
	files := contents{"snap": synced(snap(4, "s")), seg(2): synced(sealed("b")), seg(3): synced(sealed("c", "d")), seg(5): synced(sealed("e"))}
	wantLog(t, open(t, diskOf(t, files, 9), 16), state{4, 5, "s", []string{"e"}})
	delete(files, seg(3))
	wantBad(t, diskOf(t, files, 9), 16, seg(5), api.ErrForm)
}

// tails are what may follow frames that is none, and why.
func tails() map[string]api.Errno {
	good := sealed("abc")
	return map[string]api.Errno{
		"x":                                    api.ErrEnd,
		good[:5]:                               api.ErrEnd,
		good[:6]:                               api.ErrEnd,
		good[:8]:                               api.ErrEnd,
		"\x01\x10\x00\x00\x00\x00":             api.ErrForm,
		"\xff\xff\xff\xff\xff\xff" + good:      api.ErrForm,
		good[:8] + "d":                         api.ErrSum,
		good[:8] + "d" + good:                  api.ErrSum,
		"\x00\x00\x00\x00\x00\x00":             api.ErrSum,
		"\x00\x00\x00\x00\x00\x00" + long(300): api.ErrSum,
	}
}

func TestP41TornSegments(t *testing.T) {
	for tail, e := range tails() {
		for _, front := range []string{"", sealed("a"), sealed("a", "", "c")} {
			next := map[string]int{"": 1, sealed("a"): 2, sealed("a", "", "c"): 4}[front]
			// Not the last one.
			if next > 1 {
				wantBad(t, diskOf(t, contents{seg(1): synced(front + tail), seg(next): synced(sealed("z"))}, 9), 16, seg(1), e)
				wantBad(t, diskOf(t, contents{seg(1): synced(front + tail), seg(next): synced("")}, 9), 16, seg(1), e)
			}
			wantBad(t, diskOf(t, contents{seg(1): synced(front + tail), seg(9): synced("")}, 9), 16, seg(1), e)
			// The last one: the tail is cut off.
			for _, loose := range []int{0, 1, len(tail), len(front) + len(tail)} {
				d := diskOf(t, contents{seg(1): {front + tail, loose}}, 9)
				recs := []string{"a", "", "c"}[:next-1]
				wantLog(t, open(t, d, 16), state{0, next - 1, "", recs})
				wantDisk(t, d, contents{seg(1): synced(front)})
			}
			d := diskOf(t, contents{seg(1): synced(sealed("y", "z")), seg(3): synced(front + tail)}, 9)
			wantLog(t, open(t, d, 16), state{0, next + 1, "", append([]string{"y", "z"}, []string{"a", "", "c"}[:next-1]...)})
			wantDisk(t, d, contents{seg(1): synced(sealed("y", "z")), seg(3): synced(front)})
		}
	}
}

// The last record is not below the snapshot.
func TestP41LastBelowBase(t *testing.T) {
	for base := range 7 {
		for _, tail := range []string{"", "x", sealed("abc")[:8]} {
			files := contents{"snap": {snap(base, "s"), 3}, seg(1): synced(sealed("a", "b", "c") + tail), "snap.new": synced("x")}
			d := diskOf(t, files, 9)
			if base > 3 {
				wantBad(t, d, 16, seg(1), api.ErrForm)
			} else {
				wantLog(t, open(t, d, 16), state{base, 3, "s", []string{"a", "b", "c"}[base:]})
			}
			files = contents{"snap": synced(snap(base, "s")), seg(1): synced(sealed("a")), seg(2): synced(sealed("b", "c") + tail)}
			d = diskOf(t, files, 9)
			if base > 3 {
				wantBad(t, d, 16, seg(2), api.ErrForm)
			} else {
				wantLog(t, open(t, d, 16), state{base, 3, "s", []string{"a", "b", "c"}[base:]})
			}
		}
	}
	// The last segment has no records: the number before its first one counts.
	for base := range 7 {
		for _, tail := range []string{"", "x"} {
			d := diskOf(t, contents{"snap": synced(snap(base, "s")), seg(1): synced(sealed("a", "b", "c")), seg(4): synced(tail)}, 9)
			if base > 3 {
				wantBad(t, d, 16, seg(4), api.ErrForm)
			} else {
				wantLog(t, open(t, d, 16), state{base, 3, "s", []string{"a", "b", "c"}[base:]})
			}
		}
	}
	for first := 1; first <= 4; first++ { // and it is the first one too
		d := diskOf(t, contents{"snap": synced(snap(3, "s")), seg(first): synced("x")}, 9)
		if first < 4 {
			wantBad(t, d, 16, seg(first), api.ErrForm)
		} else {
			wantLog(t, open(t, d, 16), state{3, 3, "s", nil})
		}
	}
}

func TestP41IgnoredFiles(t *testing.T) {
	others := contents{}
	for _, name := range []string{"lo", "l", "Log00000001", "LOG", " log", "alog", "00000001", "snap.", "snap.ne", "snap.new2", "snap.old", "Snap",
		"snaplog", "snapshot", "snap ", "sna", "\xff", "\x00", "lof", "loh", "loG"} {
		others[name] = content{"no frame " + name, 4}
	}
	d := diskOf(t, others, 100)
	wantLog(t, open(t, d, 16), state{})
	wantDisk(t, d, others)
	l := open(t, d, 16)
	add(t, l, "abc")
	ok(t, l.Sync())
	ok(t, l.Snap(1, []byte("s")))
	ok(t, l.Cut(1))
	wantLog(t, open(t, d, 16), state{1, 1, "s", nil})
	want := maps.Clone(others)
	want["snap"] = synced(snap(1, "s"))
	want[seg(1)] = synced(sealed("abc"))
	wantDisk(t, d, want)
}

// What Open leaves: nothing behind the frames, nothing of a segment that is not synced, no snap.new.
func TestP41Settles(t *testing.T) {
	for _, c := range []content{synced(""), {"", 0}, synced("x"), {"abc", 2}, synced(snap(9, "other")), {snap(9, "other"), 3}, synced(sealed("", ""))} {
		d := diskOf(t, contents{"snap.new": c}, 9)
		wantLog(t, open(t, d, 16), state{})
		wantDisk(t, d, contents{})
		files := contents{"snap.new": c, "snap": synced(snap(2, "s")), seg(2): {sealed("b", "c"), 9}, seg(4): {sealed("d"), 7}, seg(5): {sealed("e") + "x", 8}}
		d = diskOf(t, files, 9)
		l := open(t, d, 16)
		wantLog(t, l, state{2, 5, "s", []string{"c", "d", "e"}})
		want := contents{"snap": synced(snap(2, "s")), seg(2): synced(sealed("b", "c")), seg(4): synced(sealed("d")), seg(5): synced(sealed("e"))}
		wantDisk(t, d, want)
		d.Crash(nil)
		wantDisk(t, d, want)
		wantLog(t, open(t, d, 1<<16), state{2, 5, "s", []string{"c", "d", "e"}})
	}
}

// With an error, the disk stays as it is, whatever there is that Open would settle otherwise.
func TestP41NoEffect(t *testing.T) {
	files := func() contents {
		return contents{"snap.new": {"x", 1}, "snap": {snap(2, "s"), 3}, seg(1): {sealed("a", "b"), 9}, seg(3): {sealed("c") + "x", 1}}
	}
	open(t, diskOf(t, files(), 9), 16)
	wantBad(t, diskOf(t, files(), 9), 15, "", api.ErrArg)
	for _, c := range []struct {
		name string
		bad  content
		e    api.Errno
	}{
		{"snap", content{"x", 1}, api.ErrEnd},
		{seg(1), content{sealed("a", "b") + "x", 1}, api.ErrEnd},
		{seg(2), content{"", 0}, api.ErrForm},
		{seg(3), content{sealed("c") + "x", 1}, api.OK},
		{"log00", content{"x", 1}, api.ErrForm},
	} {
		f := files()
		f[c.name] = c.bad
		if c.e != api.OK {
			wantBad(t, diskOf(t, f, 9), 16, c.name, c.e)
		}
	}
	f := files()
	f["snap"] = content{snap(4, "s"), 3}
	wantBad(t, diskOf(t, f, 9), 16, seg(3), api.ErrForm)
}

// A log may be opened with another size than before; the segments that are there stay as they are.
func TestP41OtherSize(t *testing.T) {
	l, d := fresh(t, 1<<16)
	add(t, l, "a", "b", "c", long(4096))
	ok(t, l.Sync())
	wantNames(t, d, seg(1))
	l = open(t, d, 16)
	wantLog(t, l, state{0, 4, "", []string{"a", "b", "c", long(4096)}})
	wantNames(t, d, seg(1))
	add(t, l, "e", "f")
	wantNames(t, d, seg(1), seg(5))
	l = open(t, d, 1<<16)
	add(t, l, "g")
	wantNames(t, d, seg(1), seg(5))
	wantLog(t, l, state{0, 6, "", []string{"a", "b", "c", long(4096), "e", "f", "g"}})
}
