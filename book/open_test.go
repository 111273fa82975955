package book_test

import (
	"slices"
	"strings"
	"testing"

	"daisychain/api"
	"daisychain/chain"
	"daisychain/disk"
	"daisychain/frame"
	"daisychain/master"
)

func TestP151OpenEmpty(t *testing.T) {
	for _, size := range []int{16, 17, 4096, 1 << 16} {
		b, d := fresh(t, 100, size)
		wantBook(t, b, chain.Keep{}, 0)
		wantDisk(t, d, contents{})
	}
	b, _ := fresh(t, 0, 16)
	wantBook(t, b, chain.Keep{}, 0)
}

// The errors of wal.Open.
func TestP151OpenOfNoLog(t *testing.T) {
	for _, size := range []int{15, 0, -1, 1<<16 + 1, most, -1 << 63} {
		wantBad(t, disk.New(100), size, "", api.ErrArg)
		wantBad(t, with(t, sealed("\x02")), size, "", api.ErrArg)
	}
	wantBad(t, nil, 16, "", api.ErrArg)
	wantBad(t, nil, 15, "", api.ErrArg)

	d := with(t, sealed("\x02"))
	put(t, d, "snap", "abc")
	wantBad(t, d, 16, "snap", api.ErrEnd)

	d = with(t, sealed(cmd("a")))
	put(t, d, "snap", snap(2, ""))
	wantBad(t, d, 16, seg(1), api.ErrForm)

	d = with(t, sealed(cmd("a"))+"x")
	put(t, d, seg(2), sealed(cmd("b")))
	wantBad(t, d, 16, seg(1), api.ErrEnd)

	d = with(t, "")
	put(t, d, "logs", "")
	wantBad(t, d, 16, "logs", api.ErrForm)
}

// The records lead to what the book contains, one after the other.
func TestP151OpenOfRecords(t *testing.T) {
	one, two := full(1, 4, 5), joining(2, 5, 6)
	for _, x := range []struct {
		recs []string
		want chain.Keep
	}{
		{cmds("a"), keep(master.Config{}, "a")},
		{cmds("a", "", "a"), keep(master.Config{}, "a", "", "a")},
		{[]string{conf(one)}, keep(one)},
		{[]string{conf(one), conf(two)}, keep(two)},
		{[]string{conf(two), conf(one)}, keep(one)},
		{[]string{conf(one), conf(one)}, keep(one)},
		{[]string{conf(one), cmd("a"), cmd("b")}, keep(one, "a", "b")},
		{[]string{cmd("a"), conf(one), cmd("b")}, keep(one, "a", "b")},
		{[]string{cmd("a"), over(one), cmd("b")}, keep(one, "b")},
		{[]string{cmd("a"), cmd("b"), over(one)}, keep(one)},
		{[]string{over(one)}, keep(one)},
		{[]string{conf(one), cmd("a"), over(one), over(two), cmd("c"), conf(one), cmd("d")}, keep(one, "c", "d")},
		{[]string{conf(one), conf(master.Config{})}, keep(master.Config{})},
		{[]string{conf(one), cmd("a"), conf(joining(0))}, keep(joining(0), "a")},
		{[]string{conf(full(most, most, 0, most, 7, 7, 7, 7, 7, 7, 128))}, keep(full(most, most, 0, most, 7, 7, 7, 7, 7, 7, 128))},
		{[]string{conf(joining(300, 99, 0, 128, 127))}, keep(joining(300, 99, 0, 128, 127))},
		{cmds(long(mostCmd), long(127), long(128), "\x00\xff\n"), keep(master.Config{}, long(mostCmd), long(127), long(128), "\x00\xff\n")},
	} {
		d := with(t, sealed(x.recs...))
		before := of(d)
		wantBook(t, open(t, d, 16), x.want, len(x.recs))
		wantDisk(t, d, before)
	}
}

// The records may be in several segments, and other files may be there.
func TestP151OpenOfSegments(t *testing.T) {
	d := with(t, sealed(conf(full(1, 3)), cmd("a")))
	put(t, d, seg(3), sealed(cmd("b")))
	put(t, d, seg(4), sealed(over(full(2, 3)), cmd("c")))
	put(t, d, seg(6), "")
	put(t, d, "other", "x")
	b := open(t, d, 16)
	wantBook(t, b, keep(full(2, 3), "c"), 5)
	ok(t, b.Save(keep(full(2, 3), "c", "d")))
	wantBook(t, b, keep(full(2, 3), "c", "d"), 6)
	if recs := recsOf(t, d); !slices.Equal(recs[4:], cmds("c", "d")) {
		t.Errorf("%q", recs)
	}
	if f := of(d); f["other"] != (content{"x", 1}) || f[seg(6)] != (content{sealed(cmd("d")), 0}) {
		t.Errorf("%v", f)
	}
}

// What a crash left of a record is cut off, as wal.Open does it, and so is a snapshot that is not finished.
func TestP151OpenMends(t *testing.T) {
	whole := sealed(conf(full(1, 3)), cmd("a"))
	next := sealed(cmd("b"))
	for n := range len(next) {
		d := disk.New(1000)
		put(t, d, seg(1), whole+next[:n])
		put(t, d, "snap.new", "x")
		b := open(t, d, 16)
		wantBook(t, b, keep(full(1, 3), "a"), 2)
		wantDisk(t, d, contents{seg(1): {whole, 0}})
		ok(t, b.Save(keep(full(1, 3), "a", "b")))
		wantDisk(t, d, contents{seg(1): {whole, 0}, seg(3): {next, 0}})
	}
}

// A log whose Base is above 0 is no book's, whatever its records are.
func TestP151OpenOfBase(t *testing.T) {
	for _, x := range []struct {
		base  int
		first int
		recs  []string
	}{
		{1, 1, cmds("a")},
		{1, 1, cmds("a", "b")},
		{1, 2, cmds("b")},
		{2, 3, nil},
		{1, 1, []string{conf(full(1, 2)), cmd("b"), cmd("c")}},
	} {
		d := disk.New(1000)
		put(t, d, seg(x.first), sealed(x.recs...))
		put(t, d, "snap", snap(x.base, "s"))
		put(t, d, "snap.new", "x")
		wantBad(t, d, 16, "", api.ErrForm)
	}
	d := disk.New(1000)
	put(t, d, "snap", snap(1, ""))
	wantBad(t, d, 1<<16, "", api.ErrForm)
}

// A snapshot that stands for no record does no harm.
func TestP151OpenOfBaseZero(t *testing.T) {
	d := with(t, sealed(cmds("a", "b")...))
	put(t, d, "snap", snap(0, "s"))
	b := open(t, d, 16)
	wantBook(t, b, keep(master.Config{}, "a", "b"), 2)
	ok(t, b.Save(keep(full(1), "a", "b", "c")))
	wantRecs(t, b, d, keep(full(1), "a", "b", "c"), cmd("a"), cmd("b"), conf(full(1)), cmd("c"))

	d = disk.New(1000)
	put(t, d, "snap", snap(0, cmd("a")))
	b = open(t, d, 16)
	wantBook(t, b, chain.Keep{}, 0)
	ok(t, b.Save(keep(full(1))))
	wantRecs(t, b, d, keep(full(1)), conf(full(1)))
}

// noRecords are bytes that are not such a record.
func noRecords() []string {
	ten := full(1, 0, 1, 2, 3, 4, 5, 6, 7, 8, 9)
	return []string{
		"", "\x00", "\x01", "\x02", "\x7f", "\x80", "\xff", "\x80\x01", "\x81\x00",
		"\x00\x01", "\x00\x01\x00", "\x00\x01\x00\x00", "\x00\x01\x00\x00\x01", "\x00\x01\x00\x00\x02\x05", // the end is missing
		conf(full(1, 2)) + "\x00", conf(full(1)) + "\x00", cmd("a") + "\x00", cmd("") + "\x01", cmd("a") + cmd("b"), // something follows
		"\x02" + conf(full(1, 2))[1:], "\x02" + cmd("a")[1:], num(128) + text("a"), num(256) + conf(full(1))[1:], num(257) + text("a"), // other kinds
		"\x80\x00" + conf(full(1, 2))[1:], "\x81\x00" + text("a"), // numbers in too many bytes
		"\x00\x81\x00\x00\x00\x00", "\x00\x01\x81\x00\x00\x00", "\x00\x01\x00\x81\x00\x00", "\x00\x01\x00\x00\x80\x00", "\x00\x01\x00\x00\x01\x85\x00", "\x01\x81\x00a",
		"\x00\x01\x02\x00\x00", "\x00\x01\x00\x02\x00", "\x00\x01\x03\x01\x00", "\x00\x01\x01\x80\x01\x00", "\x00\x01\x81\x01\x01\x00", // flags are 0 or 1
		"\x00" + strings.Repeat("\xff", 9) + "\x01\x00\x00\x00", "\x00\x01\x00\x00\x01" + strings.Repeat("\xff", 9) + "\x01", // 2^64 - 1
		conf(full(1, append(ten.Members, 10)...)), "\x00\x01\x00\x00\x0a", "\x00\x01\x00\x00" + num(most), // members
		cmd(long(mostCmd + 1)), cmd(long(4000)), "\x01" + num(mostCmd) + long(mostCmd-1), "\x01" + num(most), "\x01\x02a", // commands
	}
}

// A record that is none is an error, wherever it stands, and the disk stays as it is then.
func TestP151OpenOfOtherRecords(t *testing.T) {
	for _, rec := range noRecords() {
		for _, recs := range [][]string{
			{rec},
			{rec, conf(full(1, 2)), cmd("a")},
			{conf(full(1, 2)), rec, cmd("a")},
			{conf(full(1, 2)), cmd("a"), rec},
			{cmd("a"), rec, over(full(1, 2))},
		} {
			wantBad(t, with(t, sealed(recs...)), 16, "", api.ErrForm)
			d := disk.New(1 << 15)
			put(t, d, seg(1), sealed(recs...)+"loose end")
			put(t, d, "snap.new", "x")
			wantBad(t, d, 16, "", api.ErrForm)
		}
	}
}

// That the limits themselves are allowed.
func TestP151OpenOfLimits(t *testing.T) {
	ten := full(most, most, 1, 2, 3, 4, 5, 6, 7, 8, most)
	d := with(t, sealed(conf(ten), cmd(long(mostCmd))))
	wantBook(t, open(t, d, 16), keep(ten, long(mostCmd)), 2)
}

// eat is the number that s begins with, as layer 1 says it, and what follows.
func eat(s string) (n int, rest string, is bool) {
	for i := 0; i < len(s) && i < 9; i++ {
		n += int(s[i]&127) << (7 * i)
		if s[i] < 128 {
			return n, s[i+1:], i == 0 || s[i] > 0
		}
	}
	return 0, "", false
}

// isRecord tells whether bytes are a record, and what one alone leads to.
func isRecord(s string) (chain.Keep, bool) {
	kind, s, is := eat(s)
	if !is || kind > 1 {
		return chain.Keep{}, false
	}
	if kind == 1 {
		n, s, is := eat(s)
		return keep(master.Config{}, s), is && n == len(s) && n <= 3000
	}
	var n [4]int
	for i := range n {
		if n[i], s, is = eat(s); !is {
			return chain.Keep{}, false
		}
	}
	if n[1] > 1 || n[2] > 1 || n[3] > 10 {
		return chain.Keep{}, false
	}
	c := master.Config{Epoch: n[0], Joining: n[1] == 1}
	for range n[3] {
		var m int
		if m, s, is = eat(s); !is {
			return chain.Keep{}, false
		}
		c.Members = append(c.Members, m)
	}
	return keep(c), s == ""
}

// wantAlone checks what Open makes of bytes, as the only record.
func wantAlone(t testing.TB, rec string) {
	t.Helper()
	if k, is := isRecord(rec); is {
		wantBook(t, open(t, with(t, sealed(rec)), 16), k, 1)
	} else {
		wantBad(t, with(t, sealed(rec)), 16, "", api.ErrForm)
	}
}

// All texts of some bytes, up to a length.
func TestP151OpenOfAnyBytes(t *testing.T) {
	var all func(rec string, more int)
	all = func(rec string, more int) {
		wantAlone(t, rec)
		if more > 0 {
			for _, b := range []byte{0, 1, 2, 127, 128, 129} {
				all(rec+string([]byte{b}), more-1)
			}
		}
	}
	all("", 6)
}

// Texts near those of records: with a byte more, less, or another one.
func TestP151OpenNearRecords(t *testing.T) {
	for _, rec := range []string{
		conf(full(1, 2)), over(joining(300, 4, 500, 6)), conf(full(most, most)), conf(full(0)), cmd(""), cmd("abc"), cmd(long(130)),
		conf(full(1, 0, 1, 2, 3, 4, 5, 6, 7, 8, 9)),
	} {
		wantAlone(t, rec)
		for i := range len(rec) {
			wantAlone(t, rec[:i])
			wantAlone(t, rec[:i]+rec[i+1:])
			for _, b := range []byte{0, 1, 2, 10, 11, 127, 128, 129, 255} {
				wantAlone(t, rec[:i]+string([]byte{b})+rec[i:])
				wantAlone(t, rec[:i]+string([]byte{b})+rec[i+1:])
			}
		}
	}
}

func FuzzP151OpenOfAnyBytes(f *testing.F) {
	for _, rec := range noRecords() {
		f.Add(rec)
	}
	f.Add(over(joining(300, 4, 500)))
	f.Add(cmd("abc"))
	f.Fuzz(func(t *testing.T, rec string) {
		if len(rec) <= 4096 {
			wantAlone(t, rec)
		}
	})
}

// What Keep returns may be changed then, and appended to.
func TestP151KeepIsNew(t *testing.T) {
	b := open(t, with(t, sealed(conf(full(1, 2, 3)), cmd("a"), cmd("b"))), 16)
	want := keep(full(1, 2, 3), "a", "b")
	for range 3 {
		k, other := b.Keep(), b.Keep()
		k.Config.Members[0], k.Row[0] = 9, "x"
		_ = append(k.Config.Members[:1], 8, 8, 8)
		_ = append(k.Row[:1], "y", "y", "y")
		wantBook(t, b, want, 3)
		if !sameKeep(other, want) {
			t.Fatal(other)
		}
	}
	k := b.Keep()
	more := append(k.Row, "z")
	ok(t, b.Save(keep(full(1, 2, 3), "a", "b", "c")))
	if !slices.Equal(more, []string{"a", "b", "z"}) || !sameKeep(k, want) {
		t.Fatal(more, k)
	}
}

// Two books of the same contents have nothing to do with each other, if their disks do not.
func TestP151BooksOfCopies(t *testing.T) {
	b, d := fresh(t, 1000, 16)
	ok(t, b.Save(keep(full(1, 2), "a")))
	c := d.Copy()
	o := open(t, c, 16)
	ok(t, b.Save(keep(full(2, 2), "a", "b")))
	wantBook(t, o, keep(full(1, 2), "a"), 2)
	ok(t, o.Save(keep(full(1, 2), "x")))
	wantBook(t, b, keep(full(2, 2), "a", "b"), 4)
	wantBook(t, o, keep(full(1, 2), "x"), 4)
	if _, _, e := frame.All([]byte(of(c)[seg(1)].bytes)); e != api.OK {
		t.Error(e)
	}
}
