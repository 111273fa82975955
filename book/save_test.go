package book_test

import (
	"slices"
	"strings"
	"testing"

	"daisychain/api"
	"daisychain/book"
	"daisychain/chain"
	"daisychain/disk"
	"daisychain/master"
)

// save is a book in which each of these was saved, one after the other, and its disk.
func save(t testing.TB, l ...chain.Keep) (*book.Book, *disk.Disk) {
	t.Helper()
	b, d := fresh(t, api.MaxDisk, 4096)
	for _, k := range l {
		ok(t, b.Save(k))
		wantSynced(t, d)
	}
	return b, d
}

// A configuration, and then a row of one: two records.
func TestP152Example(t *testing.T) {
	b, d := save(t, keep(full(1, 2, 3)))
	wantRecs(t, b, d, keep(full(1, 2, 3)), conf(full(1, 2, 3)))
	ok(t, b.Save(keep(full(1, 2, 3), "a")))
	wantRecs(t, b, d, keep(full(1, 2, 3), "a"), conf(full(1, 2, 3)), cmd("a"))
	if b.Many() != 2 {
		t.Error(b.Many())
	}
}

// What is contained already needs no record.
func TestP152SaveOfTheSame(t *testing.T) {
	b, d := save(t, chain.Keep{}, chain.Keep{Config: master.Config{Members: []int{}}, Row: []string{}})
	wantRecs(t, b, d, chain.Keep{})
	wantDisk(t, d, contents{})
	k := keep(joining(4, 1, 2), "a", "", "b")
	recs := append([]string{conf(k.Config)}, cmds("a", "", "b")...)
	b, d = save(t, k, k, k)
	wantRecs(t, b, d, k, recs...)
	ok(t, b.Save(b.Keep()))
	wantRecs(t, b, d, k, recs...)
}

// A configuration that differs, in whatever, has a record; the row stays.
func TestP152SaveOfAnotherConfig(t *testing.T) {
	configs := []master.Config{
		{}, joining(0), full(0, 0), full(1), full(2), full(1, 1), full(1, 2), full(2, 1), joining(1, 1), full(1, 1, 2), full(1, 2, 1), joining(1, 1, 2),
		full(1, 1, 1), full(1, 1, 2, 3), full(most, most), full(0, 0, 1, 2, 3, 4, 5, 6, 7, 8, 9), joining(128, 127, 128),
	}
	for i, one := range configs {
		for j, two := range configs {
			row := upTo(i % 3)
			b, d := save(t, keep(one, row...), keep(two, row...))
			var recs []string
			if i > 0 {
				recs = append(recs, conf(one))
			}
			recs = append(recs, cmds(row...)...)
			if i != j {
				recs = append(recs, conf(two))
			}
			wantRecs(t, b, d, keep(two, row...), recs...)
		}
	}
}

// A row that begins with the one that is contained has a record for each command that is missing.
func TestP152SaveOfALongerRow(t *testing.T) {
	c := full(1, 2)
	for had := range 5 {
		for more := range 5 {
			row := upTo(had + more)
			b, d := save(t, keep(c, row[:had]...), keep(c, row...))
			wantRecs(t, b, d, keep(c, row...), append([]string{conf(c)}, cmds(row...)...)...)
			two := joining(2, 2, 3)
			b, d = save(t, keep(c, row[:had]...), keep(two, row...))
			recs := append([]string{conf(c)}, cmds(row[:had]...)...)
			recs = append(append(recs, conf(two)), cmds(row[had:]...)...)
			wantRecs(t, b, d, keep(two, row...), recs...)
		}
	}
}

// A row that does not begin so is discarded, with a record of the configuration, which may be the same one.
func TestP152SaveOfAnotherRow(t *testing.T) {
	had := []string{"a", "b", "c"}
	for _, row := range [][]string{
		nil, {}, {"a"}, {"a", "b"}, {"b"}, {"x", "b", "c"}, {"a", "x", "c"}, {"a", "b", "x"}, {"a", "b", "x", "d"}, {"x", "b", "c", "d"},
		{"a", "b", ""}, {""}, {"", "a", "b", "c"}, {"abc"}, {"ab", "c"}, {"a", "b", "cd"}, {"b", "a", "c"}, {"a", "b", "d", "c"},
	} {
		for _, c := range []master.Config{full(1, 2), full(2, 2), {}, joining(1, 2)} {
			b, d := save(t, keep(full(1, 2), had...), keep(c, row...))
			recs := append([]string{conf(full(1, 2))}, cmds(had...)...)
			recs = append(append(recs, over(c)), cmds(row...)...)
			wantRecs(t, b, d, keep(c, row...), recs...)
			ok(t, b.Save(keep(c, append(slices.Clone(row), "z")...)))
			wantRecs(t, b, d, keep(c, append(slices.Clone(row), "z")...), append(recs, cmd("z"))...)
		}
	}
}

// A book without a configuration, too, may have a row, which may be discarded.
func TestP152SaveWithoutConfig(t *testing.T) {
	none := master.Config{}
	b, d := save(t, keep(none, "a"), keep(none, "a", "b"), keep(none, "b"), keep(none))
	wantRecs(t, b, d, keep(none), cmd("a"), cmd("b"), over(none), cmd("b"), over(none))
}

// The limits themselves are allowed.
func TestP152SaveOfLimits(t *testing.T) {
	for _, k := range []chain.Keep{
		keep(full(1, 0, 1, 2, 3, 4, 5, 6, 7, 8, 9)),
		keep(full(0, most, most, most, most, most, most, most, most, most, most)),
		keep(joining(most)),
		keep(master.Config{}, long(mostCmd)),
		keep(full(1, 0), "", long(mostCmd), strings.Repeat("\xff", mostCmd), long(mostCmd-1)),
	} {
		b, d := save(t, k)
		recs := cmds(k.Row...)
		if !sameKeep(k, keep(master.Config{}, k.Row...)) {
			recs = append([]string{conf(k.Config)}, recs...)
		}
		wantRecs(t, b, d, k, recs...)
	}
}

// wrong are those that cannot be kept.
func wrong() []chain.Keep {
	eleven := []int{0, 1, 2, 3, 4, 5, 6, 7, 8, 9, 10}
	return []chain.Keep{
		keep(full(-1, 2), "a", "b"),
		keep(full(-1), "a", "b"),
		keep(full(-1<<63, 2), "a", "b"),
		keep(full(1, -1), "a", "b"),
		keep(full(1, 2, -1), "a", "b", "c"),
		keep(full(1, -1, 2), "a", "b"),
		keep(joining(1, 2, 3, -1<<63), "a", "b"),
		keep(full(1, eleven...), "a", "b"),
		keep(full(1, append(eleven, eleven...)...), "a", "b"),
		keep(full(1, append(slices.Clone(eleven), -1)...), "a", "b"),
		keep(full(1, 2), "a", "b", long(mostCmd+1)),
		keep(full(1, 2), long(mostCmd+1)),
		keep(full(1, 2), "a", long(mostCmd+1), "c", "d"),
		keep(full(1, 2), "a", "b", "c", long(4096), "d"),
		keep(full(2, 2), "a", "b", "c", long(1<<16)),
		keep(full(-1, -1, -1), long(mostCmd+1)),
	}
}

// What cannot be kept is refused, and nothing is written: neither the configuration, nor the commands ahead of a long one.
func TestP152SaveRefused(t *testing.T) {
	for _, k := range wrong() {
		b, d := fresh(t, api.MaxDisk, 16)
		wantRefusal(t, b, d, k)
		wantDisk(t, d, contents{})
		b, d = save(t, keep(full(1, 2), "a", "b"))
		wantRefusal(t, b, d, k)
		ok(t, b.Save(keep(full(1, 2), "a", "b", "c")))
		wantRecs(t, b, d, keep(full(1, 2), "a", "b", "c"), conf(full(1, 2)), cmd("a"), cmd("b"), cmd("c"))
	}
}

// It is refused so even if there is no room.
func TestP152SaveRefusedWithoutRoom(t *testing.T) {
	for _, k := range wrong() {
		b, d := fresh(t, 0, 16)
		wantRefusal(t, b, d, k)
		if e := b.Save(keep(full(1))); e != api.ErrFull {
			t.Error(e)
		}
		if e := b.Save(chain.Keep{}); e != api.OK {
			t.Error(e)
		}
	}
}

// For each number of bytes that there may be room for: the records that have room are there, and the book is what results
// from them. A record of no more room than is left is written, too.
func TestP152SaveWithoutRoom(t *testing.T) {
	first := keep(full(1, 2), "a", "b")
	for _, k := range []chain.Keep{
		keep(full(1, 2), "a", "b", "c", "dd", ""),
		keep(full(300, 2, 3, 128), "a", "b", "c", "dd", "", "e"),
		keep(joining(2, 2, 3), "a", "c", "", "e"),
		keep(full(1, 2)),
		keep(full(1, 2), "b", "a"),
		keep(full(1, 2), "a", "b", long(200), "", ""),
	} {
		for room := range 300 {
			for _, size := range []int{16, 40, 4096} {
				m := &model{room: room}
				b, d := fresh(t, room, size)
				for _, x := range []chain.Keep{first, k, first, k, chain.Keep{}} {
					m.wantSave(t, b, d, x)
				}
			}
		}
	}
}

// A Save for which there is no room may be followed by another one, which goes on from there, or needs no room.
func TestP152SaveAfterNoRoom(t *testing.T) {
	c := full(1, 2)
	recs := []string{conf(c), cmd("a"), cmd("b")}
	b, d := fresh(t, bytesOf(recs)+7, 16)
	if e := b.Save(keep(c, "a", "b", "c")); e != api.ErrFull {
		t.Error(e)
	}
	wantRecs(t, b, d, keep(c, "a", "b"), recs...)
	if e := b.Save(keep(full(2, 2), "a", "b", "c")); e != api.ErrFull {
		t.Error(e)
	}
	wantRecs(t, b, d, keep(c, "a", "b"), recs...)
	ok(t, b.Save(keep(c, "a", "b")))
	wantRecs(t, b, d, keep(c, "a", "b"), recs...)
	if e := b.Save(keep(c, "x")); e != api.ErrFull {
		t.Error(e)
	}
	wantRecs(t, b, d, keep(c, "a", "b"), recs...)

	recs = append(recs, over(c), cmd("x"))
	b, d = fresh(t, bytesOf(recs)+8, 16)
	ok(t, b.Save(keep(c, "a", "b")))
	if e := b.Save(keep(c, "x", long(9))); e != api.ErrFull {
		t.Error(e)
	}
	wantRecs(t, b, d, keep(c, "x"), recs...)
	ok(t, b.Save(keep(c, "x", "")))
	wantRecs(t, b, d, keep(c, "x", ""), append(recs, cmd(""))...)
}

// What Save was given may be changed then.
func TestP152SaveRetainsNothing(t *testing.T) {
	b, d := fresh(t, 1<<16, 16)
	k := keep(full(1, 2, 3), append(make([]string, 0, 9), "a", "b")...)
	ok(t, b.Save(k))
	want := keep(full(1, 2, 3), "a", "b")
	k.Config.Members[0], k.Row[0] = 9, "x"
	_ = append(k.Row, "y")
	_ = append(k.Row[:1], "y")
	wantRecs(t, b, d, want, conf(full(1, 2, 3)), cmd("a"), cmd("b"))

	row := append(make([]string, 0, 9), "a", "b", "c")
	members := append(make([]int, 0, 9), 4, 5)
	k = keep(full(2, members...), row...)
	ok(t, b.Save(k))
	if !sameKeep(k, keep(full(2, 4, 5), "a", "b", "c")) {
		t.Error("Save changed", k)
	}
	ok(t, b.Save(keep(full(3, 4), "a", "b", "c", "d", "e")))
	if full := row[:5]; full[3] != "" || full[4] != "" || members[:3][2] != 0 {
		t.Error("Save changed what is behind", full, members)
	}
}

// What a replica keeps is what New is given after a restart, whatever it adopted, ordered and received.
func TestP152SaveOfAReplica(t *testing.T) {
	d := disk.New(api.MaxDisk)
	b := open(t, d, 64)
	r := chain.New(2, b.Keep())
	step := func(_ ...chain.Msg) { // behind the call that has these messages to send
		t.Helper()
		ok(t, b.Save(r.Keep()))
		c := d.Copy()
		c.Crash(nil)
		if k := open(t, c, 64).Keep(); !sameKeep(k, r.Keep()) {
			t.Fatal("saved", r.Keep(), "found", k)
		}
	}
	step(r.Adopt(joining(2, 1, 2))...)
	for i, s := range upTo(5) {
		step(r.Receive(chain.Msg{Kind: chain.Pass, From: 1, To: 2, Epoch: 2, Index: i, Has: true, Cmd: s})...)
	}
	step(r.Adopt(full(2, 1, 2))...)
	step(r.Adopt(full(3, 2))...)
	for range 3 {
		_, l, e := r.Order("x")
		ok(t, e)
		step(l...)
	}
	b = open(t, d, 16)
	r = chain.New(2, b.Keep())
	step(r.Adopt(joining(4, 2, 1))...)
	wantBook(t, b, keep(joining(4, 2, 1), "c1", "c2", "c3", "c4", "c5", "x", "x", "x"), 12)
	step(r.Adopt(full(5, 1))...)
	step(r.Adopt(joining(6, 1, 2))...)
	wantBook(t, b, keep(joining(6, 1, 2)), 14)
}
