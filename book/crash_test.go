package book_test

import (
	"slices"
	"testing"

	"daisychain/api"
	"daisychain/chain"
	"daisychain/disk"
	"daisychain/master"
	"daisychain/wal"
)

// After a Save that returned OK, each crash leaves all of it, and the book goes on.
func TestP153AfterASave(t *testing.T) {
	l := []chain.Keep{
		keep(full(1, 2, 3)), keep(full(1, 2, 3), "a"), keep(full(1, 2, 3), "a", "b", "c"), keep(joining(2, 2, 3, 4), "a", "b", "c", "d"),
		keep(joining(3, 4, 3)), keep(joining(3, 4, 3), "a"), keep(joining(3, 4, 3), "b"), chain.Keep{}, keep(master.Config{}, "a"),
	}
	for _, size := range sizes {
		b, d := fresh(t, api.MaxDisk, size)
		for _, k := range l {
			ok(t, b.Save(k))
			for n := range 4 {
				c := d.Copy()
				c.Crash(slices.Repeat([]int{n}, 20))
				o := open(t, c, size)
				wantBook(t, o, k, b.Many())
				ok(t, o.Save(keep(full(9, 8), "z")))
				wantBook(t, open(t, c, size), keep(full(9, 8), "z"), o.Many())
			}
			d.Crash(nil)
			b = open(t, d, size)
		}
	}
}

// A Save that a crash interrupts, as its log has it: some of its records were appended, and none was synced but by the
// log itself. What is left may be saved again.
func TestP153Interrupted(t *testing.T) {
	was := keep(full(1, 2, 3), "a", "b")
	for _, k := range []chain.Keep{
		keep(full(1, 2, 3), "a", "b", "c", "dd", "", "e"),
		keep(joining(2, 2, 3, 4), "a", "b", "c", "dd"),
		keep(joining(2, 4, 2), "c", "d", "e"),
		keep(full(1, 2, 3), "a", "c", "b"),
		keep(full(2, 2, 3)),
	} {
		for _, size := range sizes {
			m := &model{room: api.MaxDisk}
			b, d := fresh(t, api.MaxDisk, size)
			ok(t, b.Save(was))
			m.save(was)
			way, _ := m.save(k)
			for many := range way {
				c := appended(t, d, size, m.recs[way[0].many:][:many])
				wantTorn(t, c, size, way[:many+1], k)
			}
		}
	}
}

// appended is a copy of a disk to whose log these records were appended.
func appended(t testing.TB, d *disk.Disk, size int, recs []string) *disk.Disk {
	t.Helper()
	c := d.Copy()
	l, err := wal.Open(c, size)
	if err != nil {
		t.Fatal(err)
	}
	for _, rec := range recs {
		ok(t, l.Append([]byte(rec)))
	}
	return c
}

// wantTorn checks, for each number of bytes that survive a crash, that a disk's book has what it contained on the way, and
// that k can be saved then.
func wantTorn(t testing.TB, d *disk.Disk, size int, way []state, k chain.Keep) {
	t.Helper()
	loose := 0
	for _, name := range d.Names() {
		loose = max(loose, d.Loose(name))
	}
	at := 0
	for n := range loose + 1 {
		c := d.Copy()
		c.Crash(slices.Repeat([]int{n}, len(c.Names())))
		b := open(t, c, size)
		for at+1 < len(way) && way[at].many < b.Many() {
			at++
		}
		wantBook(t, b, way[at].k, way[at].many)
		ok(t, b.Save(k))
		c.Crash(nil)
		if got := open(t, c, size).Keep(); !sameKeep(got, k) {
			t.Fatalf("saved %v, found %v", k, got)
		}
	}
	if at != len(way)-1 {
		t.Fatalf("all survives, and the book has %d records, not %d", way[at].many, way[len(way)-1].many)
	}
}

// A Save for which there was no room may be followed by one that a crash interrupts: what the book contained ahead of this
// one is there.
func TestP153AfterNoRoom(t *testing.T) {
	c := full(1, 2)
	recs := []string{conf(c), cmd("a"), cmd("b"), over(c)}
	b, d := fresh(t, bytesOf(recs)+3, 1<<16)
	if e := b.Save(keep(c, "a", "b", long(100))); e != api.ErrFull {
		t.Error(e)
	}
	for n := range 60 {
		crashed := d.Copy()
		crashed.Crash([]int{n})
		wantBook(t, open(t, crashed, 16), keep(c, "a", "b"), 3)
	}
	if e := b.Save(keep(c, "b", "a")); e != api.ErrFull {
		t.Error(e)
	}
	d.Crash(nil)
	wantBook(t, open(t, d, 16), keep(c), 4)
}
