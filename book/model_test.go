package book_test

import (
	"math/rand"
	"strings"
	"testing"

	"daisychain/api"
	"daisychain/book"
	"daisychain/chain"
	"daisychain/disk"
	"daisychain/master"
)

// model is a book as the document's words say it, on a disk that has room for so many bytes.
type model struct {
	room int
	k    chain.Keep
	recs []string
}

// state is what a book contains behind some number of records.
type state struct {
	k    chain.Keep
	many int
}

// save does a Save, and returns its error, and what the book contained on the way, from what it was on.
func (m *model) save(k chain.Keep) ([]state, api.Errno) {
	way := []state{{m.k, len(m.recs)}}
	if k.Config.Epoch < 0 || len(k.Config.Members) > 10 {
		return way, api.ErrState
	}
	for _, x := range k.Config.Members {
		if x < 0 {
			return way, api.ErrState
		}
	}
	for _, s := range k.Row {
		if len(s) > 3000 {
			return way, api.ErrState
		}
	}
	begins := strings.HasPrefix(strings.Join(cmds(k.Row...), ""), strings.Join(cmds(m.k.Row...), ""))
	if conf(k.Config) != conf(m.k.Config) || !begins {
		if !m.write(ofConfig(k.Config, !begins)) {
			return way, api.ErrFull
		}
		m.k.Config = k.Config
		if !begins {
			m.k.Row = nil
		}
		way = append(way, state{m.k, len(m.recs)})
	}
	for i := len(m.k.Row); i < len(k.Row); i++ {
		if !m.write(cmd(k.Row[i])) {
			return way, api.ErrFull
		}
		m.k.Row = k.Row[:i+1]
		way = append(way, state{m.k, len(m.recs)})
	}
	return way, api.OK
}

// write has one more record, if there is room.
func (m *model) write(rec string) bool {
	if bytesOf(m.recs)+6+len(rec) > m.room {
		return false
	}
	m.recs = append(m.recs, rec)
	return true
}

// wantSave has both save k, and checks the book; it returns what this one contained on the way.
func (m *model) wantSave(t testing.TB, b *book.Book, d *disk.Disk, k chain.Keep) []state {
	t.Helper()
	way, want := m.save(k)
	if e := b.Save(k); e != want {
		t.Fatalf("Save of %v: %v, not %v", k, e, want)
	}
	wantRecs(t, b, d, m.k, m.recs...)
	return way
}

// wantInterrupted checks, for each number of bytes that a Save had written when a crash interrupted it, that Open returns
// something that the book contained on the way, and all of it in the end. A Save only writes behind what is there.
func wantInterrupted(t testing.TB, before, after *disk.Disk, way []state) {
	t.Helper()
	now := before.Copy()
	at := 0
	look := func() {
		t.Helper()
		o := open(t, now.Copy(), 16)
		for at+1 < len(way) && way[at].many < o.Many() {
			at++
		}
		wantBook(t, o, way[at].k, way[at].many)
	}
	for _, name := range after.Names() {
		is, _ := after.Read(name)
		was, _ := before.Read(name)
		if !strings.HasPrefix(string(is), string(was)) {
			t.Fatalf("%q had %q and has %q", name, was, is)
		}
		put(t, now, name, "")
		for _, x := range is[len(was):] {
			look()
			put(t, now, name, string([]byte{x}))
		}
	}
	look()
	if at != len(way)-1 {
		t.Fatalf("all that was written leads to %v, not to %v", way[at], way[len(way)-1])
	}
}

// sizes are those with which books are opened.
var sizes = []int{16, 17, 30, 64, 300, 1 << 16}

// pair is a book with its disk, and its model.
type pair struct {
	b *book.Book
	d *disk.Disk
	m *model
}

func newPair(t testing.TB, room, size int) *pair {
	b, d := fresh(t, room, size)
	return &pair{b, d, &model{room: room}}
}

// other is what may be kept after what is there, by two numbers.
func (p *pair) other(what, n int) chain.Keep {
	k := p.b.Keep()
	row := k.Row
	switch what % 12 {
	case 0, 1, 2:
		row = append(row, upTo(n%4)...)
	case 3:
		row = append(row, long(n))
	case 4:
		row = row[:n%(len(row)+1)]
	case 5:
		row = append(row[:n%(len(row)+1)], "x", "")
	case 6, 7:
		k.Config = full(k.Config.Epoch+1, n%3, n)
	case 8:
		k.Config = joining(k.Config.Epoch+n%2, append(k.Config.Members, n)[len(k.Config.Members)/4:]...)
		row = append(row, upTo(n%3)...)
	case 9:
		k.Config = joining(k.Config.Epoch+1, k.Config.Members...)
		row = nil
	case 10:
		k.Config.Joining = !k.Config.Joining
	case 11:
		if l := wrong(); n%4 == 0 {
			return l[n/4%len(l)]
		}
		k.Config = master.Config{}
	}
	k.Row = row
	return k
}

// play does to both what one number says, with another number.
func (p *pair) play(t testing.TB, what, n int) {
	t.Helper()
	if what%16 < 12 {
		before := p.d.Copy()
		way := p.m.wantSave(t, p.b, p.d, p.other(what, n))
		wantInterrupted(t, before, p.d, way)
		return
	}
	if what%16 < 14 {
		p.d.Crash([]int{n, n, n})
	}
	p.b = open(t, p.d, sizes[n%len(sizes)])
	wantRecs(t, p.b, p.d, p.m.k, p.m.recs...)
}

func TestP152LikeModel(t *testing.T) {
	for seed := range 60 {
		r := rand.New(rand.NewSource(int64(seed)))
		p := newPair(t, []int{0, 50, 200, 500, 1000, 1 << 20}[r.Intn(6)], sizes[r.Intn(len(sizes))])
		for range 40 {
			p.play(t, r.Intn(16), r.Intn(60))
		}
	}
}

func FuzzP152LikeModel(f *testing.F) {
	f.Add([]byte{6, 3, 0, 3, 4, 2, 12, 5, 3, 40, 9, 0})
	f.Add([]byte{0, 3, 0, 3, 5, 1, 8, 7, 15, 2, 11, 1, 11, 0})
	f.Fuzz(func(t *testing.T, b []byte) {
		p := newPair(t, 400, 40)
		for ; len(b) >= 2; b = b[2:] {
			p.play(t, int(b[0]), int(b[1]))
		}
	})
}
