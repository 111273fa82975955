package timer_test

import (
	"math"
	"slices"
	"testing"

	"daisychain/timer"
)

// least and most are the least and the greatest number.
const least, most = math.MinInt, math.MaxInt

// with is a timer with these items, set in this order.
func with(items ...timer.Item) *timer.Timer {
	t := timer.New()
	for _, x := range items {
		t.Set(x.Id, x.At)
	}
	return t
}

// wantItems checks a list of items.
func wantItems(t testing.TB, what string, got []timer.Item, want ...timer.Item) {
	t.Helper()
	if !slices.Equal(got, want) {
		t.Fatalf("%s: %v, not %v", what, got, want)
	}
}

// wantTimer checks all that a timer tells without a change; want are its items, in order.
func wantTimer(t testing.TB, got *timer.Timer, want ...timer.Item) {
	t.Helper()
	wantItems(t, "All", got.All(), want...)
	if got.Len() != len(want) {
		t.Fatalf("Len is %d of %v", got.Len(), want)
	}
	x, is := got.Next()
	if len(want) == 0 && (is || x != timer.Item{}) || len(want) > 0 && (!is || x != want[0]) {
		t.Fatalf("Next is %v, %v of %v", x, is, want)
	}
	for _, w := range want {
		if at, is := got.At(w.Id); !is || at != w.At {
			t.Fatalf("At of %d is %d, %v of %v", w.Id, at, is, want)
		}
	}
}

// wantAbsent checks that a timer has no such item.
func wantAbsent(t testing.TB, got *timer.Timer, ids ...int) {
	t.Helper()
	for _, id := range ids {
		if at, is := got.At(id); is || at != 0 {
			t.Fatalf("At of %d, which is not there, is %d, %v", id, at, is)
		}
		before := got.All()
		if got.Drop(id) {
			t.Fatalf("Drop of %d, which is not there", id)
		}
		wantTimer(t, got, before...)
	}
}

func TestP51Example(t *testing.T) {
	m := with(timer.Item{1, 5}, timer.Item{2, 3}, timer.Item{3, 5})
	wantItems(t, "Due", m.Due(5), timer.Item{2, 3}, timer.Item{1, 5}, timer.Item{3, 5})
	wantTimer(t, m)
}

func TestP51New(t *testing.T) {
	m := timer.New()
	wantTimer(t, m)
	wantAbsent(t, m, 0, 1, -1, least, most)
	for _, now := range []int{0, least, most} {
		wantItems(t, "Due", m.Due(now))
	}
	wantTimer(t, m.Copy())
	other := timer.New()
	other.Set(1, 1)
	wantTimer(t, m)
}

func TestP51Set(t *testing.T) {
	m := timer.New()
	m.Set(7, 70)
	wantTimer(t, m, timer.Item{7, 70})
	m.Set(3, 80)
	m.Set(9, 60)
	wantTimer(t, m, timer.Item{9, 60}, timer.Item{7, 70}, timer.Item{3, 80})
	m.Set(0, 0)
	wantTimer(t, m, timer.Item{0, 0}, timer.Item{9, 60}, timer.Item{7, 70}, timer.Item{3, 80})
	wantAbsent(t, m, 1, 60, 70, -7)
}

// A time that replaces another one may be earlier, later, or the same.
func TestP51SetAgain(t *testing.T) {
	for _, c := range []struct {
		id, at int
		want   []timer.Item
	}{
		{1, 10, []timer.Item{{1, 10}, {2, 20}, {3, 30}}},
		{2, 20, []timer.Item{{1, 10}, {2, 20}, {3, 30}}},
		{1, 25, []timer.Item{{2, 20}, {1, 25}, {3, 30}}},
		{1, 35, []timer.Item{{2, 20}, {3, 30}, {1, 35}}},
		{1, 20, []timer.Item{{1, 20}, {2, 20}, {3, 30}}},
		{1, least, []timer.Item{{1, least}, {2, 20}, {3, 30}}},
		{2, 5, []timer.Item{{2, 5}, {1, 10}, {3, 30}}},
		{2, 10, []timer.Item{{1, 10}, {2, 10}, {3, 30}}},
		{2, 30, []timer.Item{{1, 10}, {2, 30}, {3, 30}}},
		{2, most, []timer.Item{{1, 10}, {3, 30}, {2, most}}},
		{3, 5, []timer.Item{{3, 5}, {1, 10}, {2, 20}}},
		{3, 20, []timer.Item{{1, 10}, {2, 20}, {3, 20}}},
		{3, -5, []timer.Item{{3, -5}, {1, 10}, {2, 20}}},
	} {
		m := with(timer.Item{1, 10}, timer.Item{2, 20}, timer.Item{3, 30})
		m.Set(c.id, c.at)
		wantTimer(t, m, c.want...)
		wantItems(t, "Due", m.Due(most), c.want...)
		wantTimer(t, m)
	}
}

func TestP51Drop(t *testing.T) {
	all := []timer.Item{{5, 1}, {4, 2}, {3, 3}, {2, 4}, {1, 5}, {0, 6}}
	for i, x := range all {
		m := with(all...)
		if !m.Drop(x.Id) {
			t.Fatal("Drop of", x.Id, "that is there")
		}
		left := slices.Delete(slices.Clone(all), i, i+1)
		wantTimer(t, m, left...)
		wantAbsent(t, m, x.Id, 6, -1, least, most)
		m.Set(x.Id, x.At)
		wantTimer(t, m, all...)
		m.Drop(x.Id)
		wantItems(t, "Due", m.Due(most), left...)
	}
	m := with(timer.Item{1, 1})
	if !m.Drop(1) || m.Drop(1) {
		t.Fatal("Drop of the only item, twice")
	}
	wantTimer(t, m)
}

// The last one of the heap that fills a gap may have to go up, where the gap is in another branch.
func TestP51DropRises(t *testing.T) {
	m := with(timer.Item{1, 0}, timer.Item{2, 50}, timer.Item{3, 1}, timer.Item{4, 60}, timer.Item{5, 70}, timer.Item{6, 2}, timer.Item{7, 3})
	m.Drop(4)
	wantItems(t, "Due", m.Due(most), timer.Item{1, 0}, timer.Item{3, 1}, timer.Item{6, 2}, timer.Item{7, 3}, timer.Item{2, 50}, timer.Item{5, 70})
}

func TestP51At(t *testing.T) {
	m := with(timer.Item{1, 0}, timer.Item{0, 4}, timer.Item{-3, -8}, timer.Item{least, most}, timer.Item{most, least})
	for id, want := range map[int]int{1: 0, 0: 4, -3: -8, least: most, most: least} {
		if at, is := m.At(id); !is || at != want {
			t.Errorf("At of %d is %d, %v", id, at, is)
		}
	}
	wantAbsent(t, m, 4, -8, 2, 3)
	m.Set(1, 9)
	if at, is := m.At(1); !is || at != 9 {
		t.Errorf("At of a time that was replaced is %d, %v", at, is)
	}
	m.Due(4)
	wantAbsent(t, m, 0, -3, most)
}

// Of several that are due at one time, the one with the least number is next, in whatever order they were set.
func TestP51Ties(t *testing.T) {
	want := []timer.Item{{least, 5}, {-2, 5}, {0, 5}, {1, 5}, {2, 5}, {10, 5}, {most, 5}}
	for shift := range len(want) {
		order := append(slices.Clone(want[shift:]), want[:shift]...)
		wantTimer(t, with(order...), want...)
		slices.Reverse(order)
		m := with(order...)
		wantTimer(t, m, want...)
		wantItems(t, "Due", m.Due(5), want...)
	}
}

func TestP51Next(t *testing.T) {
	m := with(timer.Item{1, 9}, timer.Item{2, 9}, timer.Item{3, 8})
	for range 3 { // it stays
		wantTimer(t, m, timer.Item{3, 8}, timer.Item{1, 9}, timer.Item{2, 9})
	}
	m.Drop(3)
	wantTimer(t, m, timer.Item{1, 9}, timer.Item{2, 9})
	m.Set(1, most)
	wantTimer(t, m, timer.Item{2, 9}, timer.Item{1, most})
	m.Due(9)
	wantTimer(t, m, timer.Item{1, most})
	m.Due(most)
	wantTimer(t, m)
	zero := with(timer.Item{0, 0})
	if x, is := zero.Next(); !is || x != (timer.Item{}) {
		t.Error("Next of an item 0 at 0 is", x, is)
	}
}

func TestP51Due(t *testing.T) {
	all := []timer.Item{{8, least}, {6, -1}, {2, 0}, {3, 0}, {1, 7}, {4, 8}, {5, most}, {9, most}}
	for _, c := range []struct{ now, due int }{
		{least, 1}, {least + 1, 1}, {-2, 1}, {-1, 2}, {0, 4}, {1, 4}, {6, 4}, {7, 5}, {8, 6}, {9, 6}, {most - 1, 6}, {most, 8},
	} {
		m := with(all...)
		wantItems(t, "Due", m.Due(c.now), all[:c.due]...)
		wantTimer(t, m, all[c.due:]...)
		for _, x := range all[:c.due] {
			wantAbsent(t, m, x.Id)
		}
		wantItems(t, "Due again", m.Due(c.now))
		wantTimer(t, m, all[c.due:]...)
	}
}

// A timer keeps no time of its own: what is set is due whenever an earlier Due was.
func TestP51DueBack(t *testing.T) {
	m := with(timer.Item{1, 10}, timer.Item{2, 20})
	wantItems(t, "Due", m.Due(15), timer.Item{1, 10})
	m.Set(1, 3)
	m.Set(3, 15)
	wantTimer(t, m, timer.Item{1, 3}, timer.Item{3, 15}, timer.Item{2, 20})
	wantItems(t, "Due", m.Due(2))
	wantItems(t, "Due", m.Due(15), timer.Item{1, 3}, timer.Item{3, 15})
	wantTimer(t, m, timer.Item{2, 20})
}

func TestP51Copy(t *testing.T) {
	was := []timer.Item{{3, 1}, {1, 4}, {2, 4}, {4, 9}}
	m := with(was...)
	c := m.Copy()
	wantTimer(t, c, was...)
	c.Set(4, 0)
	c.Set(5, 5)
	c.Drop(1)
	wantTimer(t, m, was...)
	c.Due(3)
	wantTimer(t, m, was...)
	wantTimer(t, c, timer.Item{2, 4}, timer.Item{5, 5})
	m.Set(2, 8)
	m.Set(6, 5)
	m.Due(4)
	wantTimer(t, c, timer.Item{2, 4}, timer.Item{5, 5})
	wantTimer(t, c.Copy().Copy(), timer.Item{2, 4}, timer.Item{5, 5})
	wantTimer(t, m, timer.Item{6, 5}, timer.Item{2, 8}, timer.Item{4, 9})
}

// What a copy gets behind its items does not land in the timer, nor in another copy, nor the other way round.
func TestP51CopyBehind(t *testing.T) {
	m := timer.New()
	var was []timer.Item
	for i := range 40 {
		one, two := m.Copy(), m.Copy()
		one.Set(1000, 1000)
		two.Set(2000, 2000)
		m.Set(i, i)
		wantTimer(t, one, append(slices.Clone(was), timer.Item{1000, 1000})...)
		wantTimer(t, two, append(slices.Clone(was), timer.Item{2000, 2000})...)
		was = append(was, timer.Item{i, i})
		wantTimer(t, m, was...)
	}
}

// What is returned is new memory: the timer does not change when it does, nor it when the timer does.
func TestP51NewMemory(t *testing.T) {
	was := []timer.Item{{3, 1}, {1, 4}, {2, 4}, {4, 9}, {5, 10}}
	m := with(was...)
	all, again := m.All(), m.All()
	clear(all[:cap(all)])
	wantItems(t, "All", again, was...)
	wantTimer(t, m, was...)
	due := m.Due(4)
	clear(again[:cap(again)])
	wantItems(t, "Due", due, was[:3]...)
	m.Set(6, 0)
	m.Set(7, 1)
	m.Set(8, 2)
	wantItems(t, "Due", due, was[:3]...)
	clear(due[:cap(due)])
	wantTimer(t, m, timer.Item{6, 0}, timer.Item{7, 1}, timer.Item{8, 2}, timer.Item{4, 9}, timer.Item{5, 10})
}

// All calls end soon, however many items there are.
func TestP51Many(t *testing.T) {
	const many = 1 << 17
	m := timer.New()
	for i := range many {
		m.Set(i*7919%many, many-i)
	}
	for i := range many {
		m.Set(i, i/3)
	}
	for i := 0; i < many; i += 2 {
		if !m.Drop(i) {
			t.Fatal("Drop of", i)
		}
	}
	var want []timer.Item
	for i := 1; i < many; i += 2 {
		want = append(want, timer.Item{i, i / 3})
	}
	wantTimer(t, m, want...)
	wantItems(t, "Due", m.Copy().Due(many/6), want[:(many/2+2)/2]...)
	for _, x := range want {
		if next, is := m.Next(); !is || next != x {
			t.Fatal("Next is", next, is, "not", x)
		}
		wantItems(t, "Due", m.Due(x.At-1))
		m.Drop(x.Id)
	}
	wantTimer(t, m)
}
