package entry_test

import (
	"runtime"
	"slices"
	"strings"
	"testing"

	"daisychain/api"
	"daisychain/entry"
)

func TestP112Example(t *testing.T) {
	l := with(0, 0, 1, 1, 2)
	wantMerge(t, l, 1, 1, after(1, 3), 2, true)
	wantLog(t, l, 0, 0, after(0, 1, 3)...)
}

// Each case is a log with Base 4 of term 2, and entries 5 to 8 of the terms 2, 2, 3, 3.
func TestP112Merge(t *testing.T) {
	for _, x := range []struct {
		what     string
		at, term int
		more     []int
		want     int
		terms    []int
	}{
		{"none, at the end", 8, 3, nil, 8, []int{2, 2, 3, 3}},
		{"none, within", 6, 2, nil, 6, []int{2, 2, 3, 3}},
		{"none, at Base", 4, 2, nil, 4, []int{2, 2, 3, 3}},
		{"appended", 8, 3, []int{3, 5}, 10, []int{2, 2, 3, 3, 3, 5}},
		{"all there", 4, 2, []int{2, 2, 3, 3}, 8, []int{2, 2, 3, 3}},
		{"some there, later ones stay", 5, 2, []int{2, 3}, 7, []int{2, 2, 3, 3}},
		{"some there, others appended", 6, 2, []int{3, 3, 3, 4}, 10, []int{2, 2, 3, 3, 3, 4}},
		{"the last one replaced", 7, 3, []int{4}, 8, []int{2, 2, 3, 4}},
		{"the first one replaced", 4, 2, []int{4}, 5, []int{4}},
		{"one within replaced, later ones removed", 5, 2, []int{4}, 6, []int{2, 4}},
		{"there, replaced, appended", 4, 2, []int{2, 2, 4, 4, 5, 6}, 10, []int{2, 2, 4, 4, 5, 6}},
		{"replaced by a lower term", 6, 2, []int{2}, 7, []int{2, 2, 2}},
		{"replaced, then as it was", 6, 2, []int{4, 3}, 8, []int{2, 2, 4, 3}},
	} {
		t.Run(x.what, func(t *testing.T) {
			l := with(4, 2, 2, 2, 3, 3)
			wantMerge(t, l, x.at, x.term, after(x.at, x.more...), x.want, true)
			wantLog(t, l, 4, 2, after(4, x.terms...)...)
		})
	}
}

// What was discarded is left out, and then no term is examined but that of the entries.
func TestP112BelowBase(t *testing.T) {
	for _, x := range []struct {
		at, term int
		more     []int
		want     int
		terms    []int
	}{
		{0, 0, nil, 0, []int{2, 3}},
		{3, 1, nil, 3, []int{2, 3}},
		{3, 99, nil, 3, []int{2, 3}},
		{0, 0, []int{1, 1, 1}, 3, []int{2, 3}},
		{0, 0, []int{1, 1, 1, 2}, 4, []int{2, 3}},
		{0, 0, []int{7, 7, 7, 7}, 4, []int{2, 3}},
		{3, -5, []int{9}, 4, []int{2, 3}},
		{0, 0, []int{7, 7, 7, 7, 2}, 5, []int{2, 3}},
		{3, 99, []int{9, 2, 3, 4}, 7, []int{2, 3, 4}},
		{3, 99, []int{9, 2, 5}, 6, []int{2, 5}},
		{2, least, []int{9, 9, 6}, 5, []int{6}},
	} {
		l := with(4, 2, 2, 3)
		wantMerge(t, l, x.at, x.term, after(x.at, x.more...), x.want, true)
		wantLog(t, l, 4, 2, after(4, x.terms...)...)
	}
	l := entry.New(4, 2)
	wantMerge(t, l, 2, 0, after(2, 1, 1, 3), 5, true)
	wantLog(t, l, 4, 2, after(4, 3)...)
	wantMerge(t, entry.New(1<<40, 2), 7, 0, after(7, 1, 1, 3), 10, true)
}

func TestP112Refused(t *testing.T) {
	for _, x := range []struct{ at, term int }{
		{-1, 0}, {-1, 2}, {least, 2}, {least, 0}, // negative
		{7, 3}, {7, 0}, {8, 3}, {1 << 40, 3}, {most, 3}, {most, 0}, // greater than Last
		{4, 1}, {4, 0}, {4, 3}, {5, 3}, {6, 2}, {6, 4}, {6, -3}, {6, most}, // another term
	} {
		for _, more := range [][]int{nil, {9}, {2, 3}, {9, 9, 9, 9, 9, 9}} {
			l := with(4, 2, 2, 3)
			wantMerge(t, l, x.at, x.term, after(0, more...), 0, false)
			wantLog(t, l, 4, 2, after(4, 2, 3)...)
		}
	}
}

// The term of Base 0 is what New was told.
func TestP112AtZero(t *testing.T) {
	wantMerge(t, entry.New(0, 0), 0, 0, after(0, 1), 1, true)
	wantMerge(t, entry.New(0, 0), 0, 1, after(0, 1), 0, false)
	wantMerge(t, entry.New(0, 3), 0, 3, after(0, 4), 1, true)
	wantMerge(t, entry.New(0, 3), 0, 0, after(0, 4), 0, false)
	wantMerge(t, entry.New(0, 0), 0, 0, nil, 0, true)
}

// The entries that are given are neither modified nor retained, nor is what lies behind them.
func TestP112Arguments(t *testing.T) {
	for _, l := range []*entry.Log{with(0, 0), with(0, 0, 1), with(0, 0, 9, 9, 9, 9), with(0, 0, 1, 1, 2, 2)} {
		given := after(0, 1, 1, 2, 5, 6)
		wantMerge(t, l, 0, 0, given[:3], 3, true)
		l.Add(entry.Entry{Term: 7, Data: "x"})
		if !slices.Equal(given, after(0, 1, 1, 2, 5, 6)) {
			t.Error("an argument was changed:", given)
		}
		for i := range given {
			given[i] = entry.Entry{Term: 8, Data: "changed"}
		}
		if got := l.From(1, 3); !slices.Equal(got, after(0, 1, 1, 2)) {
			t.Error("an argument was retained:", got)
		}
	}
}

// An entry that is there stays as it is, if the other one has its term: its data is not looked at.
func TestP112SameTermStays(t *testing.T) {
	l := with(0, 0, 1, 2)
	wantMerge(t, l, 0, 0, []entry.Entry{{Term: 1, Data: "other"}}, 1, true)
	wantLog(t, l, 0, 0, after(0, 1, 2)...)
}

func TestP112AfterPass(t *testing.T) {
	l := with(0, 0, 1, 1, 2, 2)
	wantPass(t, l, 3, api.OK)
	wantMerge(t, l, 2, 1, after(2, 2, 3, 3), 5, true)
	wantLog(t, l, 3, 2, after(3, 3, 3)...)
	wantMerge(t, l, 3, 1, after(3, 4), 0, false)
	wantMerge(t, l, 3, 2, after(3, 4), 4, true)
	wantLog(t, l, 3, 2, after(3, 4)...)
}

// inUse is how many bytes of memory are in use.
func inUse() int {
	var m runtime.MemStats
	runtime.GC()
	runtime.ReadMemStats(&m)
	return int(m.HeapAlloc)
}

// Entries that were removed, or discarded, are kept no longer.
func TestRemovedEntriesAreNotKept(t *testing.T) {
	const each, many = 1 << 20, 32
	for what, remove := range map[string]func(l *entry.Log){
		"Merge": func(l *entry.Log) { wantMerge(t, l, 1, 1, after(1, 2), 2, true) },
		"Pass":  func(l *entry.Log) { wantPass(t, l, many-1, api.OK) },
	} {
		before := inUse()
		l := entry.New(0, 0)
		for range many {
			l.Add(entry.Entry{Term: 1, Data: strings.Repeat("x", each)})
		}
		remove(l)
		if more := inUse() - before; more > many/2*each {
			t.Errorf("%s: %d bytes are kept", what, more)
		}
		runtime.KeepAlive(l)
	}
}
