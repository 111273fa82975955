package wal_test

import (
	"bytes"
	"errors"
	"maps"
	"slices"
	"strconv"
	"strings"
	"testing"

	"daisychain/api"
	"daisychain/coil"
	"daisychain/disk"
	"daisychain/frame"
	"daisychain/wal"
)

// content is what a file has: all its bytes, and how many of them are not synced.
type content struct {
	bytes string
	loose int
}

// String tells it, but for most of its bytes if these are many.
func (c content) String() string {
	return strconv.Quote(c.bytes[:min(len(c.bytes), 60)]) + " of " + strconv.Itoa(len(c.bytes)) + " bytes, loose " + strconv.Itoa(c.loose)
}

// contents are what all files have.
type contents map[string]content

// of is what a disk has.
func of(d *disk.Disk) contents {
	c := contents{}
	for _, name := range d.Names() {
		b, _ := d.Read(name)
		c[name] = content{string(b), d.Loose(name)}
	}
	return c
}

// diskOf is a disk with these files, and room for that many bytes more.
func diskOf(t testing.TB, c contents, more int) *disk.Disk {
	t.Helper()
	used := 0
	for _, f := range c {
		used += len(f.bytes)
	}
	d := disk.New(used + more)
	for name, f := range c {
		synced := len(f.bytes) - f.loose
		ok(t, d.Append(name, []byte(f.bytes[:synced])))
		ok(t, d.Sync(name))
		ok(t, d.Append(name, []byte(f.bytes[synced:])))
	}
	return d
}

// wantDisk checks what a disk has.
func wantDisk(t testing.TB, d *disk.Disk, want contents) {
	t.Helper()
	if got := of(d); !maps.Equal(got, want) {
		t.Fatalf("the disk has\n%v, not\n%v", got, want)
	}
}

// wantNames checks which files a disk has.
func wantNames(t testing.TB, d *disk.Disk, want ...string) {
	t.Helper()
	if got := d.Names(); !slices.Equal(got, want) {
		t.Fatalf("the disk has %q, not %q", got, want)
	}
}

// ok checks that there is no error.
func ok(t testing.TB, e api.Errno) {
	t.Helper()
	if e != api.OK {
		t.Fatal(e)
	}
}

// sealed are the frames of these records.
func sealed(recs ...string) string {
	all := ""
	for _, rec := range recs {
		f, e := frame.Seal([]byte(rec))
		if e != api.OK {
			panic(e)
		}
		all += string(f)
	}
	return all
}

// snap is the file of a snapshot.
func snap(at int, b string) string { return sealed(string(coil.Num(nil, at)) + b) }

// synced is a file that is.
func synced(b string) content { return content{b, 0} }

// seg is the name of the segment whose first record has that number.
func seg(first int) string {
	digits := strconv.Itoa(first)
	return "log" + strings.Repeat("0", 8-len(digits)) + digits
}

// open is a disk's log.
func open(t testing.TB, d *disk.Disk, size int) *wal.Log {
	t.Helper()
	l, err := wal.Open(d, size)
	if err != nil || l == nil {
		t.Fatalf("Open: %v, %v of %v", l, err, of(d))
	}
	return l
}

// fresh is a log of segments of that many bytes, on an empty disk, and that disk.
func fresh(t testing.TB, size int) (*wal.Log, *disk.Disk) {
	t.Helper()
	d := disk.New(api.MaxDisk)
	return open(t, d, size), d
}

// add appends records.
func add(t testing.TB, l *wal.Log, recs ...string) {
	t.Helper()
	for _, rec := range recs {
		ok(t, l.Append([]byte(rec)))
	}
}

// state is all that a log's queries tell.
type state struct {
	base, synced int
	snapshot     string
	recs         []string
}

// stateOf is what a log's queries tell.
func stateOf(t testing.TB, l *wal.Log) state {
	t.Helper()
	s := state{base: l.Base(), synced: l.Synced(), snapshot: string(l.Snapshot())}
	for k := l.Base() + 1; k <= l.Last(); k++ {
		rec, there := l.Get(k)
		if !there {
			t.Fatal("there is no record", k, "between", l.Base(), "and", l.Last())
		}
		s.recs = append(s.recs, string(rec))
	}
	for _, k := range []int{l.Base(), l.Base() - 1, l.Last() + 1, l.Last() + 2, -1, 0, -1 << 63, 1<<63 - 1} {
		if rec, there := l.Get(k); there || len(rec) > 0 {
			t.Fatalf("there is a record %d, %q; Base is %d, Last %d", k, rec, l.Base(), l.Last())
		}
	}
	return s
}

// same tells whether two states are.
func (s state) same(o state) bool {
	return s.base == o.base && s.synced == o.synced && s.snapshot == o.snapshot && slices.Equal(s.recs, o.recs)
}

// wantLog checks what a log's queries tell, and its last number too.
func wantLog(t testing.TB, l *wal.Log, want state) {
	t.Helper()
	if got := stateOf(t, l); !got.same(want) || l.Last() != want.base+len(want.recs) {
		t.Fatalf("the log has\n%v and last record %d, not\n%v", got, l.Last(), want)
	}
}

// wantBad checks that a disk has no log, because of that file, and that it stays as it is.
func wantBad(t testing.TB, d *disk.Disk, size int, file string, e api.Errno) {
	t.Helper()
	before := of(d)
	l, err := wal.Open(d, size)
	var b *wal.Bad
	if l != nil || !errors.As(err, &b) || b.File != file || !errors.Is(err, e) {
		t.Fatalf("Open: %v, %v; not %q and %v; of %v", l, err, file, e, before)
	}
	wantDisk(t, d, before)
}

// wantRefusal checks that a call returns an error, and changes neither the log nor the disk.
func wantRefusal(t testing.TB, l *wal.Log, d *disk.Disk, e api.Errno, call func() api.Errno) {
	t.Helper()
	log, files := stateOf(t, l), of(d)
	if got := call(); got != e {
		t.Fatal("error", got, "not", e)
	}
	wantLog(t, l, log)
	wantDisk(t, d, files)
}

// long is a text of that many bytes.
func long(n int) string { return string(bytes.Repeat([]byte("daisychain "), n/11+1)[:n]) }
