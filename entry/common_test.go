package entry_test

import (
	"math"
	"slices"
	"strconv"
	"testing"

	"daisychain/api"
	"daisychain/entry"
)

// least and most are the least and the greatest number.
const least, most = math.MinInt, math.MaxInt

// data is what stands in entry k, if it has that term: no other entry has the same.
func data(k, term int) string { return strconv.Itoa(k) + " of " + strconv.Itoa(term) }

// after are entries of these terms, numbered from at + 1 on.
func after(at int, terms ...int) []entry.Entry {
	var l []entry.Entry
	for i, term := range terms {
		l = append(l, entry.Entry{Term: term, Data: data(at+1+i, term)})
	}
	return l
}

// with is a log with that base, its term, and entries of these terms.
func with(base, term int, terms ...int) *entry.Log {
	l := entry.New(base, term)
	for _, e := range after(base, terms...) {
		l.Add(e)
	}
	return l
}

// wantLog checks all that a log tells: its base, the term of that, and its entries.
func wantLog(t testing.TB, l *entry.Log, base, term int, want ...entry.Entry) {
	t.Helper()
	if got := l.Base(); got != base {
		t.Fatalf("Base: %d, want %d", got, base)
	}
	if got := l.Last(); got != base+len(want) {
		t.Fatalf("Last: %d, want %d", got, base+len(want))
	}
	if got, is := l.Term(base); !is || got != term {
		t.Fatalf("Term of Base %d: %d, %v, want %d", base, got, is, term)
	}
	for i, e := range want {
		k := base + 1 + i
		if got, is := l.Term(k); !is || got != e.Term {
			t.Fatalf("Term of %d: %d, %v, want %d", k, got, is, e.Term)
		}
		if got, is := l.Get(k); !is || got != e {
			t.Fatalf("Get of %d: %v, %v, want %v", k, got, is, e)
		}
		wantFrom(t, l, k, most, want[i:]...)
		wantFrom(t, l, k, 2, want[i:min(i+2, len(want))]...)
	}
	wantFrom(t, l, least, most, want...)
	wantFrom(t, l, base, len(want), want...)
	wantAbsent(t, l)
}

// wantFrom checks a list of entries.
func wantFrom(t testing.TB, l *entry.Log, k, most int, want ...entry.Entry) {
	t.Helper()
	if got := l.From(k, most); !slices.Equal(got, want) {
		t.Fatalf("From of %d, %d: %v, want %v", k, most, got, want)
	}
}

// wantAbsent checks that a log has nothing outside of what its Base and its Last tell.
func wantAbsent(t testing.TB, l *entry.Log) {
	t.Helper()
	for _, k := range []int{least, -1, l.Base() - 1, l.Base(), l.Last() + 1, l.Last() + 2, most} {
		if got, is := l.Get(k); is || got != (entry.Entry{}) {
			t.Fatalf("Get of %d: %v, %v", k, got, is)
		}
		if got, is := l.Term(k); k != l.Base() && (is || got != 0) {
			t.Fatalf("Term of %d: %d, %v", k, got, is)
		}
		if k > l.Last() {
			wantFrom(t, l, k, most)
		}
	}
}

// wantMerge checks what a Merge returns.
func wantMerge(t testing.TB, l *entry.Log, at, term int, more []entry.Entry, want int, done bool) {
	t.Helper()
	if got, is := l.Merge(at, term, more); got != want || is != done {
		t.Fatalf("Merge at %d, term %d, of %v: %d, %v, want %d, %v", at, term, more, got, is, want, done)
	}
}

// wantPass checks what a Pass returns.
func wantPass(t testing.TB, l *entry.Log, k int, want api.Errno) {
	t.Helper()
	if got := l.Pass(k); got != want {
		t.Fatalf("Pass of %d: %v, want %v", k, got, want)
	}
}
