package entry_test

import (
	"math/rand"
	"slices"
	"testing"

	"daisychain/api"
	"daisychain/entry"
)

// model is a log as the document's words say it: entry k is at the place k; those up to base are only remembered, so
// that what other logs have can be made.
type model struct {
	base int
	all  []entry.Entry
}

func (m *model) last() int { return len(m.all) - 1 }

func (m *model) merge(at, term int, more []entry.Entry) (int, bool) {
	end := at + len(more)
	switch {
	case at < 0:
		return 0, false
	case at < m.base && end <= m.base:
		return end, true
	case at < m.base:
		return m.merge(m.base, m.all[m.base].Term, more[m.base-at:])
	case at > m.last() || m.all[at].Term != term:
		return 0, false
	}
	for i, e := range more {
		k := at + 1 + i
		if k <= m.last() && m.all[k].Term != e.Term {
			m.all = slices.Clone(m.all[:k])
		}
		if k > m.last() {
			m.all = append(m.all, e)
		}
	}
	return end, true
}

func (m *model) newer(last, term int) bool {
	own := m.all[m.last()].Term
	return term > own || (term == own && last >= m.last())
}

func (m *model) pass(k int) api.Errno {
	if k < m.base || k > m.last() {
		return api.ErrArg
	}
	m.base = k
	return api.OK
}

// other are entries that another log has from at + 1 on: as many of this log's as same says, then more, of terms that
// grow from one to the next by 0 or 1, as the bits of steps say.
func (m *model) other(at, same, more, steps int) []entry.Entry {
	l := []entry.Entry{}
	term := 1
	for k := at + 1; k <= at+same+more; k++ {
		if k >= 1 && k <= m.last() && k <= at+same {
			l = append(l, m.all[k])
			term = m.all[k].Term
			continue
		}
		term += steps & 1
		steps >>= 1
		l = append(l, after(k-1, term)...)
	}
	return l
}

// pair is a log and its model.
type pair struct {
	l *entry.Log
	m *model
}

func pairOf(base, term int) *pair {
	all := make([]entry.Entry, base+1)
	all[base].Term = term
	return &pair{entry.New(base, term), &model{base, all}}
}

// play does to both what a number says, with three others.
func (p *pair) play(t testing.TB, what, a, b, c int) {
	t.Helper()
	switch what % 8 {
	default:
		p.merge(t, p.m.base-3+a%(p.m.last()-p.m.base+6), b, c)
	case 3, 4:
		e := after(p.m.last(), p.m.all[p.m.last()].Term+a%2)[0]
		p.m.all = append(p.m.all, e)
		if got := p.l.Add(e); got != p.m.last() {
			t.Fatalf("Add: %d, want %d", got, p.m.last())
		}
	case 5:
		k := p.m.base - 2 + a%(p.m.last()-p.m.base+4)
		wantPass(t, p.l, k, p.m.pass(k))
	case 6:
		last, term := p.m.last()-2+a%5, p.m.all[p.m.last()].Term-1+b%3
		if got, want := p.l.Newer(last, term), p.m.newer(last, term); got != want {
			t.Fatalf("Newer of %d, term %d: %v", last, term, got)
		}
	case 7:
		was := p.l
		p.l = was.Copy()
		was.Add(entry.Entry{Term: 99})
		was.Merge(was.Base(), p.m.all[p.m.base].Term, after(was.Base(), 99, 99))
		was.Pass(was.Last())
	}
	wantLog(t, p.l, p.m.base, p.m.all[p.m.base].Term, p.m.all[p.m.base+1:]...)
}

// merge checks a Merge against the model, and what follows from it: P11.4.
func (p *pair) merge(t testing.TB, at, b, c int) {
	t.Helper()
	more := p.m.other(at, b%4, b/4%4, c)
	term := b/16%3 - 1
	if at >= 0 && at <= p.m.last() && b/16%4 != 0 {
		term = p.m.all[at].Term
	}
	before := p.l.Copy()
	want, done := p.m.merge(at, term, more)
	wantMerge(t, p.l, at, term, more, want, done)
	if done {
		wantMatch(t, before, p.l, at, more)
	}
}

// wantMatch checks that the entries of more are there after at, and those up to at are what they were.
func wantMatch(t testing.TB, before, l *entry.Log, at int, more []entry.Entry) {
	t.Helper()
	for k := before.Base() + 1; k <= min(at, before.Last()); k++ {
		was, _ := before.Get(k)
		if got, is := l.Get(k); !is || got != was {
			t.Fatalf("entry %d after a Merge at %d: %v, it was %v", k, at, got, was)
		}
	}
	for i, e := range more {
		k := at + 1 + i
		if k <= l.Base() {
			continue
		}
		if got, is := l.Get(k); !is || got != e {
			t.Fatalf("entry %d after a Merge at %d: %v, %v, want %v", k, at, got, is, e)
		}
		if term, is := l.Term(k); !is || term != e.Term {
			t.Fatalf("the logs do not match at %d after a Merge at %d: term %d, %v, want %d", k, at, term, is, e.Term)
		}
	}
}

func TestP11LikeModel(t *testing.T) {
	for seed := range 300 {
		r := rand.New(rand.NewSource(int64(seed)))
		p := pairOf(r.Intn(5), r.Intn(3))
		for range 120 {
			p.play(t, r.Intn(8), r.Intn(256), r.Intn(256), r.Intn(256))
		}
	}
}

func FuzzP11LikeModel(f *testing.F) {
	f.Add([]byte{0, 0, 3, 1, 0, 0, 3, 0, 0, 0, 3, 1, 0, 0, 0, 4, 20, 1, 5, 4, 0, 0})
	f.Add([]byte{3, 1, 0, 3, 250, 17, 255, 7, 0, 0, 0, 1, 9, 30, 255, 6, 2, 1, 0})
	f.Fuzz(func(t *testing.T, b []byte) {
		if len(b) < 2 {
			return
		}
		p := pairOf(int(b[0]%8), int(b[1]%4))
		for b = b[2:]; len(b) >= 4 && len(p.m.all) < 200; b = b[4:] {
			p.play(t, int(b[0]), int(b[1]), int(b[2]), int(b[3]))
		}
	})
}

// follower is a log that another one sends its entries to, as the master's leader does: at first it assumes that all is
// there, and goes back by one where the terms differ.
func follower(t *testing.T, leader, l *entry.Log) {
	t.Helper()
	for at := leader.Last(); at >= 0; at-- {
		term, _ := leader.Term(at)
		more := leader.From(at+1, most)
		before := l.Copy()
		end, done := l.Merge(at, term, more)
		if !done {
			wantLog(t, l, before.Base(), 0, before.From(0, most)...)
			continue
		}
		if end != leader.Last() {
			t.Fatalf("Merge at %d returned %d of %d", at, end, leader.Last())
		}
		wantMatch(t, before, l, at, more)
		return
	}
	t.Fatal("no Merge was done")
}

// P11.4: whatever two logs had, after a Merge of all that one has they are equal up to its last entry. (As in any master,
// two of these logs that match at a number match at all numbers before it.)
func TestP114Follows(t *testing.T) {
	logs := [][]int{nil, {1}, {1, 1}, {1, 1, 1, 1, 1, 1, 1, 1, 1}, {1, 1, 2}, {1, 1, 2, 2}, {1, 3}, {1, 3, 3, 3}, {1, 1, 2, 4, 4}, {5}, {5, 5, 5}}
	for _, a := range logs {
		for _, b := range logs {
			leader, l := with(0, 0, a...), with(0, 0, b...)
			follower(t, leader, l)
			if got := l.From(1, len(a)); !slices.Equal(got, after(0, a...)) {
				t.Fatalf("%v after all of %v: %v", b, a, got)
			}
		}
	}
}
