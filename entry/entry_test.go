package entry_test

import (
	"slices"
	"testing"

	"daisychain/api"
	"daisychain/entry"
)

func TestP111New(t *testing.T) {
	for _, x := range []struct{ base, term, wantBase, wantTerm int }{
		{0, 0, 0, 0}, {0, 3, 0, 3}, {5, 0, 5, 0}, {5, 3, 5, 3},
		{-1, 3, 0, 3}, {5, -1, 5, 0}, {-1, -1, 0, 0}, {least, least, 0, 0}, {1 << 40, most, 1 << 40, most},
	} {
		wantLog(t, entry.New(x.base, x.term), x.wantBase, x.wantTerm)
	}
	l := entry.New(0, 0)
	entry.New(0, 0).Add(entry.Entry{Term: 1})
	wantLog(t, l, 0, 0)
}

func TestP111Add(t *testing.T) {
	for _, base := range []int{0, 1, 7, 1 << 40} {
		l := entry.New(base, 2)
		terms := []int{2, 2, 3, 7, 7, 8, 1 << 50}
		for i := range terms {
			e := after(base, terms...)[i]
			if got := l.Add(e); got != base+1+i {
				t.Fatalf("Add of entry %d: %d", base+1+i, got)
			}
			wantLog(t, l, base, 2, after(base, terms[:i+1]...)...)
		}
	}
}

// Add takes any entry, whatever came before it.
func TestP111AddAny(t *testing.T) {
	want := []entry.Entry{{Term: 9, Data: ""}, {Term: 1, Data: "\x00\xff"}, {Term: 0, Data: "x"}, {Term: -4, Data: "x"}}
	l := entry.New(0, 0)
	for _, e := range want {
		l.Add(e)
	}
	wantLog(t, l, 0, 0, want...)
}

func TestP111Get(t *testing.T) {
	l := with(3, 1, 1, 2)
	for k, want := range map[int]entry.Entry{4: {Term: 1, Data: "4 of 1"}, 5: {Term: 2, Data: "5 of 2"}} {
		if got, is := l.Get(k); !is || got != want {
			t.Errorf("Get of %d: %v, %v", k, got, is)
		}
	}
	for _, k := range []int{least, -1, 0, 1, 2, 3, 6, 7, most} {
		if got, is := l.Get(k); is || got != (entry.Entry{}) {
			t.Errorf("Get of %d: %v, %v", k, got, is)
		}
	}
}

func TestP111Term(t *testing.T) {
	l := with(3, 1, 1, 2)
	for k, want := range map[int]int{3: 1, 4: 1, 5: 2} {
		if got, is := l.Term(k); !is || got != want {
			t.Errorf("Term of %d: %d, %v", k, got, is)
		}
	}
	for _, k := range []int{least, -1, 0, 1, 2, 6, 7, most} {
		if got, is := l.Term(k); is || got != 0 {
			t.Errorf("Term of %d: %d, %v", k, got, is)
		}
	}
}

func TestP111From(t *testing.T) {
	l := with(3, 1, 1, 2, 2, 4)
	all := after(3, 1, 2, 2, 4)
	for _, k := range []int{least, -1, 0, 2, 3, 4} {
		wantFrom(t, l, k, most, all...)
		wantFrom(t, l, k, 5, all...)
		wantFrom(t, l, k, 4, all...)
		wantFrom(t, l, k, 3, all[:3]...)
		wantFrom(t, l, k, 1, all[0])
	}
	wantFrom(t, l, 5, 8, all[1:]...)
	wantFrom(t, l, 5, 2, all[1], all[2])
	wantFrom(t, l, 7, 8, all[3])
	for _, k := range []int{least, 0, 4, 7, 8, most} {
		for _, n := range []int{0, -1, least} {
			wantFrom(t, l, k, n)
		}
	}
	for _, k := range []int{8, 9, 1 << 40, most} {
		wantFrom(t, l, k, most)
		wantFrom(t, l, k, 1)
	}
	wantFrom(t, entry.New(3, 1), 4, most)
}

// What From returns is new memory: neither a change of it nor an append to it reaches the log, or another list.
func TestP111FromIsNew(t *testing.T) {
	l := with(0, 0, 1, 2, 3)
	first, second := l.From(1, 2), l.From(1, 2)
	first[0].Data = "changed"
	_ = append(first, entry.Entry{Term: 9})
	_ = append(first[:0], entry.Entry{Term: 9}, entry.Entry{Term: 9}, entry.Entry{Term: 9})
	wantLog(t, l, 0, 0, after(0, 1, 2, 3)...)
	if !slices.Equal(second, after(0, 1, 2)) {
		t.Error("another list:", second)
	}
	wantMerge(t, l, 0, 0, after(0, 5, 5), 2, true)
	if !slices.Equal(second, after(0, 1, 2)) {
		t.Error("a list after a Merge:", second)
	}
}

// What happens to a log does not happen to its copy, and the other way round.
func TestP111Copy(t *testing.T) {
	changes := map[string]func(l *entry.Log){
		"Add":             func(l *entry.Log) { l.Add(entry.Entry{Term: 9, Data: "x"}) },
		"Merge":           func(l *entry.Log) { l.Merge(4, 1, after(4, 9)) },
		"Merge, all":      func(l *entry.Log) { l.Merge(3, 1, after(3, 9, 9, 9, 9)) },
		"Pass":            func(l *entry.Log) { l.Pass(5) },
		"Pass, all":       func(l *entry.Log) { l.Pass(6) },
		"Pass, and again": func(l *entry.Log) { l.Pass(5); l.Add(entry.Entry{Term: 9}); l.Pass(7) },
	}
	for what, change := range changes {
		for _, more := range []int{0, 1, 2, 5} {
			l := with(3, 1, 1, 2, 2)
			want := after(3, 1, 2, 2)
			for range more {
				want = append(want, entry.Entry{Term: 4, Data: "y"})
				l.Add(want[len(want)-1])
			}
			c := l.Copy()
			d := l.Copy()
			change(l)
			wantLog(t, c, 3, 1, want...)
			change(c)
			wantLog(t, d, 3, 1, want...)
			if l.Base() != c.Base() || !slices.Equal(l.From(0, most), c.From(0, most)) {
				t.Error(what, "of a log and of its copy:", l.From(0, most), c.From(0, most))
			}
		}
	}
	wantLog(t, entry.New(8, 2).Copy(), 8, 2)
}

// A copy and its log each add entries of their own, in turn.
func TestP111CopyAddsItsOwn(t *testing.T) {
	l := with(0, 0, 1)
	c := l.Copy()
	for i := range 20 {
		l.Add(after(i+1, 2)[0])
		c.Add(after(i+1, 3)[0])
	}
	terms := func(n int) []int { return append([]int{1}, slices.Repeat([]int{n}, 20)...) }
	wantLog(t, l, 0, 0, after(0, terms(2)...)...)
	wantLog(t, c, 0, 0, after(0, terms(3)...)...)
}

func TestP113Newer(t *testing.T) {
	l := with(3, 1, 1, 4, 4)
	for _, x := range []struct {
		last, term int
		want       bool
	}{
		{6, 4, true}, {7, 4, true}, {most, 4, true}, {5, 4, false}, {0, 4, false}, {least, 4, false},
		{0, 5, true}, {6, 5, true}, {least, most, true}, {5, 5, true},
		{6, 3, false}, {7, 3, false}, {most, 3, false}, {most, 0, false}, {most, least, false},
	} {
		if got := l.Newer(x.last, x.term); got != x.want {
			t.Errorf("Newer of %d, term %d: %v", x.last, x.term, got)
		}
	}
	wantLog(t, l, 3, 1, after(3, 1, 4, 4)...)
}

// Without entries, it is Base that counts, and its term.
func TestP113NewerOfNone(t *testing.T) {
	for _, l := range []*entry.Log{entry.New(3, 2), func() *entry.Log { l := with(0, 0, 1, 1, 2); l.Pass(3); return l }()} {
		for _, x := range []struct {
			last, term int
			want       bool
		}{{3, 2, true}, {4, 2, true}, {2, 2, false}, {0, 3, true}, {4, 1, false}, {3, 0, false}} {
			if got := l.Newer(x.last, x.term); got != x.want {
				t.Errorf("Newer of %d, term %d: %v", x.last, x.term, got)
			}
		}
	}
	l := entry.New(0, 0)
	if !l.Newer(0, 0) || l.Newer(-1, 0) || l.Newer(5, -1) || !l.Newer(0, 1) {
		t.Error("Newer of an empty log")
	}
}

func TestP113Pass(t *testing.T) {
	terms := []int{1, 1, 2, 3, 3}
	for k := 3; k <= 8; k++ {
		l := with(3, 1, terms...)
		wantPass(t, l, k, api.OK)
		term := append([]int{1}, terms...)[k-3]
		wantLog(t, l, k, term, after(k, terms[k-3:]...)...)
		for _, past := range []int{k - 1, 0, -1, least} {
			wantPass(t, l, past, api.ErrArg)
		}
		if got := l.Add(after(8, 7)[0]); got != 9 {
			t.Errorf("Add after a Pass of %d: %d", k, got)
		}
		wantLog(t, l, k, term, after(k, append(slices.Clone(terms[k-3:]), 7)...)...)
	}
}

func TestP113PassRefused(t *testing.T) {
	l := with(3, 1, 1, 2)
	for _, k := range []int{least, -1, 0, 2, 6, 7, 1 << 40, most} {
		wantPass(t, l, k, api.ErrArg)
		wantLog(t, l, 3, 1, after(3, 1, 2)...)
	}
	l = entry.New(0, 0)
	wantPass(t, l, -1, api.ErrArg)
	wantPass(t, l, 1, api.ErrArg)
	wantPass(t, l, 0, api.OK)
	wantLog(t, l, 0, 0)
}

// One entry after the other is discarded, while others come.
func TestP113PassOften(t *testing.T) {
	l := with(0, 0, 1, 1, 1)
	for k := 1; k <= 200; k++ {
		l.Add(after(k+2, 1+k/10)[0])
		if k == 1 {
			wantPass(t, l, 1, api.OK)
			continue
		}
		wantPass(t, l, k, api.OK)
		if l.Base() != k || l.Last() != k+3 || len(l.From(0, most)) != 3 {
			t.Fatalf("after a Pass of %d: %d to %d", k, l.Base(), l.Last())
		}
	}
}

// Beyond the numbers for which anything is promised, each call still ends, and none panics.
func TestHugeNumbers(t *testing.T) {
	for _, base := range []int{most, most - 1} {
		for _, at := range []int{least, -1, 0, 5, most - 2, most - 1, most} {
			l := entry.New(base, most)
			for range 4 {
				l.Add(entry.Entry{Term: most})
				l.Merge(at, most, after(0, 1, 2, 3))
				l.Newer(at, most)
				l.Get(at)
				l.Term(at)
				l.From(at, most)
				l.Copy().Pass(at)
			}
			l.Last()
		}
	}
}
