package wal_test

import (
	"math/rand"
	"slices"
	"strings"
	"testing"

	"daisychain/api"
	"daisychain/disk"
	"daisychain/frame"
	"daisychain/wal"
)

func TestP44Example(t *testing.T) {
	l, d := fresh(t, 1<<16)
	ok(t, l.Append([]byte("abc")))
	ok(t, l.Sync())
	ok(t, l.Append([]byte("def")))
	d.Crash([]int{5})
	l = open(t, d, 1<<16)
	wantLog(t, l, state{0, 1, "", []string{"abc"}})
	wantDisk(t, d, contents{seg(1): synced(sealed("abc"))})
}

// wantSurvivors checks, for each number of bytes that survive a crash, what Open returns then: the same snapshot, and of
// the records the first ones, with all that were synced.
func wantSurvivors(t testing.TB, l *wal.Log, d *disk.Disk, size int) {
	t.Helper()
	before := stateOf(t, l)
	names := d.Names()
	loose := 0
	for _, name := range names {
		loose = max(loose, d.Loose(name))
	}
	for n := range loose + 1 {
		keep := make([]int, len(names))
		for i := range keep {
			keep[i] = n
		}
		c := d.Copy()
		c.Crash(keep)
		again := open(t, c, size)
		after := stateOf(t, again)
		count := len(after.recs)
		if after.base != before.base || after.snapshot != before.snapshot || again.Last() < before.synced || after.synced != again.Last() ||
			count > len(before.recs) || !slices.Equal(after.recs, before.recs[:count]) {
			t.Fatalf("a crash that keeps %d of %d bytes turns\n%v into\n%v", n, loose, before, after)
		}
		if n == loose && count != len(before.recs) {
			t.Fatal("all bytes survive, and", count, "records of", len(before.recs))
		}
	}
}

// Each byte of the last segment may be where a crash tears it.
func TestP44EachByte(t *testing.T) {
	recs := []string{"abc", "", "0123456789", "", "", strings.Repeat("\x00", 20), sealed("inside", "")}
	for _, size := range []int{16, 30, 1 << 16} {
		for sync := range len(recs) + 1 {
			l, d := fresh(t, size)
			add(t, l, recs[:sync]...)
			ok(t, l.Sync())
			add(t, l, recs[sync:]...)
			wantSurvivors(t, l, d, size)
			for at := 0; at <= l.Synced(); at++ {
				ok(t, l.Snap(at, []byte{byte(at)}))
				wantSurvivors(t, l, d, size)
			}
			for last := l.Last(); last >= l.Base(); last-- {
				ok(t, l.Cut(last))
				wantSurvivors(t, l, d, size)
			}
		}
	}
}

// A snapshot that somebody else wrote, and did not sync, survives from the Open on that read it.
func TestP44LooseSnapshot(t *testing.T) {
	for _, files := range []contents{
		{"snap": {snap(2, "s"), 4}},
		{"snap": {snap(2, "s"), len(snap(2, "s"))}, seg(2): {sealed("b", "c"), 3}},
	} {
		d := diskOf(t, files, 100)
		l := open(t, d, 16)
		wantSurvivors(t, l, d, 16)
		add(t, l, "d", "e")
		wantSurvivors(t, l, d, 16)
	}
}

// part is a segment: the number of its first record, and its records.
type part struct {
	first int
	recs  []string
}

// model is a log on its disk, as the document's words say it. Of the last part's records, the last ones are loose.
type model struct {
	room, size int
	base       int
	saved      bool
	snapshot   string
	parts      []part
	loose      int
}

// contents are what the model's disk has.
func (m *model) contents() contents {
	c := contents{}
	for i, p := range m.parts {
		f := synced(sealed(p.recs...))
		if i == len(m.parts)-1 {
			f.loose = len(sealed(p.recs[len(p.recs)-m.loose:]...))
		}
		c[seg(p.first)] = f
	}
	if m.saved {
		c["snap"] = synced(snap(m.base, m.snapshot))
	}
	return c
}

// free is how many bytes there is room for.
func (m *model) free() int {
	n := m.room
	for _, f := range m.contents() {
		n -= len(f.bytes)
	}
	return n
}

// last is the number of the last record.
func (m *model) last() int {
	if len(m.parts) == 0 {
		return m.base
	}
	p := m.parts[len(m.parts)-1]
	return p.first + len(p.recs) - 1
}

// state is what the queries of the log tell.
func (m *model) state() state {
	s := state{base: m.base, synced: m.last() - m.loose, snapshot: m.snapshot}
	for _, p := range m.parts {
		for i, rec := range p.recs {
			if p.first+i > m.base {
				s.recs = append(s.recs, rec)
			}
		}
	}
	return s
}

func (m *model) append(rec string) api.Errno {
	if len(rec) > 4096 || len(sealed(rec)) > m.free() {
		return api.ErrFull
	}
	begins := len(m.parts) == 0
	if !begins {
		has := len(sealed(m.parts[len(m.parts)-1].recs...))
		begins = has > 0 && has+len(sealed(rec)) > m.size
	}
	if begins {
		m.parts = append(m.parts, part{first: m.last() + 1})
		m.loose = 0
	}
	p := &m.parts[len(m.parts)-1]
	p.recs = append(p.recs, rec)
	m.loose++
	return api.OK
}

func (m *model) snap(at int, b string) api.Errno {
	if at < m.base || at > m.last()-m.loose {
		return api.ErrArg
	}
	if len(b) > 4000 || len(snap(at, b)) > m.free() {
		return api.ErrFull
	}
	m.base, m.snapshot, m.saved = at, b, true
	for len(m.parts) > 1 && m.parts[0].first+len(m.parts[0].recs)-1 <= at {
		m.parts = m.parts[1:]
	}
	return api.OK
}

func (m *model) cut(last int) api.Errno {
	if last < m.base || last > m.last() {
		return api.ErrArg
	}
	var left []part
	for _, p := range m.parts {
		if p.first <= last {
			left = append(left, part{p.first, p.recs[:min(len(p.recs), last-p.first+1)]})
		}
	}
	m.parts, m.loose = left, 0
	return api.OK
}

// crash is a crash that keeps n bytes, and an Open.
func (m *model) crash(n int) {
	if len(m.parts) == 0 {
		return
	}
	p := &m.parts[len(m.parts)-1]
	safe := len(p.recs) - m.loose
	bytes := 0
	if n >= 0 {
		bytes = n % (len(sealed(p.recs[safe:]...)) + 1)
	}
	for safe < len(p.recs) && len(sealed(p.recs[safe])) <= bytes {
		bytes -= len(sealed(p.recs[safe]))
		safe++
	}
	p.recs, m.loose = p.recs[:safe], 0
}

// pair is a log with its disk, and its model.
type pair struct {
	l *wal.Log
	d *disk.Disk
	m *model
}

func newPair(t testing.TB, room, size int) *pair {
	d := disk.New(room)
	return &pair{open(t, d, size), d, &model{room: room, size: size}}
}

// sizes are those with which logs are played.
var sizes = []int{16, 17, 24, 40, 100, 1 << 16}

// play does to both what one number says, with another number.
func (p *pair) play(t testing.TB, what, n int) {
	t.Helper()
	got, want := api.OK, api.OK
	switch what % 16 {
	default:
		rec := long(max(n, 0) % 40)
		got, want = p.l.Append([]byte(rec)), p.m.append(rec)
	case 8, 9:
		got = p.l.Sync()
		p.m.loose = 0
	case 10, 11:
		at, b := p.m.base+n%9-1, long(max(n, 0)%30)
		got, want = p.l.Snap(at, []byte(b)), p.m.snap(at, b)
	case 12, 13:
		last := p.m.last() - n%9 + 1
		got, want = p.l.Cut(last), p.m.cut(last)
	case 14:
		p.d.Crash(slices.Repeat([]int{n}, 1+len(p.d.Names())))
		p.m.crash(n)
		p.m.size = sizes[max(n, 0)%len(sizes)]
		p.l = open(t, p.d, p.m.size)
	case 15: // everything survives
		p.m.loose = 0
		p.m.size = sizes[max(n, 0)%len(sizes)]
		p.l = open(t, p.d, p.m.size)
	}
	if got != want {
		t.Fatalf("op %d with %d: %v, not %v", what%16, n, got, want)
	}
	wantLog(t, p.l, p.m.state())
	wantDisk(t, p.d, p.m.contents())
	if what%16 > 9 || n%5 == 0 {
		wantSurvivors(t, p.l, p.d, p.m.size)
	}
}

func TestP44LikeModel(t *testing.T) {
	for seed := range 150 {
		r := rand.New(rand.NewSource(int64(seed)))
		p := newPair(t, []int{0, 20, 100, 300, 1000, 1 << 20}[r.Intn(6)], sizes[r.Intn(len(sizes))])
		for range 80 {
			p.play(t, r.Intn(16), r.Intn(60)-4)
		}
	}
}

func FuzzP44LikeModel(f *testing.F) {
	f.Add([]byte{0, 3, 0, 4, 8, 0, 0, 5, 14, 5, 12, 3})
	f.Add([]byte{0, 30, 0, 30, 0, 30, 8, 0, 10, 3, 12, 4, 0, 2, 15, 0})
	f.Fuzz(func(t *testing.T, b []byte) {
		p := newPair(t, 300, 40)
		for ; len(b) >= 2; b = b[2:] {
			p.play(t, int(b[0]), int(int8(b[1])))
		}
	})
}

// Whatever the files of a disk are, Open ends; what it returns is as the document says, and goes on as a log.
func FuzzP41AnyFiles(f *testing.F) {
	f.Add([]byte(snap(1, "s")), []byte(sealed("a", "b")), []byte(sealed("c")+"x"), 3)
	f.Add([]byte(snap(3, "s")), []byte(sealed("a", "b")), []byte{}, 3)
	f.Fuzz(func(t *testing.T, s, one, two []byte, next int) {
		files := contents{"snap": {string(s), len(s) / 2}, seg(1): {string(one), len(one)}, "snap.new": synced("x")}
		if next > 1 && next < 100000000 {
			files[seg(next)] = synced(string(two))
		}
		d := diskOf(t, files, 1000)
		l, err := wal.Open(d, 16)
		if err != nil {
			wantDisk(t, d, files)
			return
		}
		recs, _, e := frame.All(one)
		if len(files) == 4 {
			if e != api.OK || next != len(recs)+1 {
				t.Fatal("Open of a segment with", len(recs), "records and", e, "ahead of", next)
			}
			more, _, _ := frame.All(two)
			recs = append(recs, more...)
		}
		if l.Last() != len(recs) || l.Synced() != len(recs) || l.Base() > len(recs) {
			t.Fatal("of", len(recs), "records, the last one is", l.Last(), l.Synced(), l.Base())
		}
		wantSurvivors(t, l, d, 16)
		add(t, l, "abc", "defghijklm")
		wantSurvivors(t, l, d, 16)
		ok(t, l.Cut(l.Base()))
		wantSurvivors(t, l, d, 16)
	})
}
