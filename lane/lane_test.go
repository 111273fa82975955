package lane_test

import (
	"math"
	"slices"
	"strings"
	"testing"

	"daisychain/lane"
)

// least and most are the least and the greatest number.
const least, most = math.MinInt, math.MaxInt

// with are lanes with these items, added in this order.
func with(items ...item) *lane.Lanes {
	l := lane.New()
	for _, x := range items {
		l.Add(x.group, x.id)
	}
	return l
}

// wantIds checks a list of items.
func wantIds(t testing.TB, what string, got []int, want ...int) {
	t.Helper()
	if !slices.Equal(got, want) {
		t.Fatalf("%s: %v, not %v", what, got, want)
	}
}

// wantLanes checks all that lanes tell; want are their items, in order.
func wantLanes(t testing.TB, got *lane.Lanes, want ...item) {
	t.Helper()
	var all, heads []int
	of := map[string][]int{}
	for _, x := range want {
		if group, is := got.Group(x.id); !is || group != x.group {
			t.Fatalf("Group of %d is %q, %v of %v", x.id, group, is, want)
		}
		if len(of[x.group]) == 0 {
			heads = append(heads, x.id)
		}
		all = append(all, x.id)
		of[x.group] = append(of[x.group], x.id)
	}
	wantIds(t, "All", got.All(), all...)
	wantIds(t, "Heads", got.Heads(), heads...)
	for group, ids := range of {
		wantIds(t, "Of "+group, got.Of(group), ids...)
		if id, is := got.Head(group); !is || id != ids[0] {
			t.Fatalf("Head of %q is %d, %v of %v", group, id, is, want)
		}
	}
	if got.Len() != len(want) {
		t.Fatalf("Len is %d of %v", got.Len(), want)
	}
}

// wantAbsent checks that lanes have no such items.
func wantAbsent(t testing.TB, got *lane.Lanes, ids ...int) {
	t.Helper()
	for _, id := range ids {
		if group, is := got.Group(id); is || group != "" {
			t.Fatalf("Group of %d, which is not there, is %q, %v", id, group, is)
		}
		before := got.All()
		if got.Drop(id) {
			t.Fatalf("Drop of %d, which is not there", id)
		}
		wantIds(t, "All", got.All(), before...)
	}
}

// wantNone checks that lanes have no item in these groups.
func wantNone(t testing.TB, got *lane.Lanes, groups ...string) {
	t.Helper()
	for _, group := range groups {
		wantIds(t, "Of "+group, got.Of(group))
		if id, is := got.Head(group); is || id != 0 {
			t.Fatalf("Head of %q, which has no item, is %d, %v", group, id, is)
		}
	}
}

func TestP61Example(t *testing.T) {
	l := with(item{"a", 1}, item{"b", 2}, item{"a", 3})
	if !l.Drop(1) {
		t.Fatal("Drop of 1")
	}
	wantIds(t, "Heads", l.Heads(), 2, 3)
	wantLanes(t, l, item{"b", 2}, item{"a", 3})
}

func TestP61New(t *testing.T) {
	l := lane.New()
	wantLanes(t, l)
	wantAbsent(t, l, 0, 1, -1, least, most)
	wantNone(t, l, "", "a", "\x00")
	wantLanes(t, l.Copy())
	other := lane.New()
	other.Add("a", 1)
	wantLanes(t, l)
}

func TestP61Add(t *testing.T) {
	var want []item
	l := lane.New()
	for _, x := range []item{{"b", 5}, {"a", 9}, {"b", 1}, {"", 7}, {"c", 0}, {"", -2}, {"a", least}, {"b", most}, {"A", 2}} {
		wantAbsent(t, l, x.id)
		if !l.Add(x.group, x.id) {
			t.Fatal("Add of", x)
		}
		want = append(want, x)
		wantLanes(t, l, want...)
	}
	wantNone(t, l, "d", "ab", "b ", "\x00")
}

// An item that is there stays where it is, whichever group it is to be added to: its own, another one, a new one.
func TestP61AddTwice(t *testing.T) {
	was := []item{{"a", 1}, {"b", 2}, {"a", 3}, {"", 0}}
	l := with(was...)
	for _, x := range was {
		for _, group := range []string{"a", "b", "", "c", x.group} {
			if l.Add(group, x.id) {
				t.Fatalf("Add of %d, which is there, to %q", x.id, group)
			}
			wantLanes(t, l, was...)
		}
	}
	wantNone(t, l, "c")
}

// A group is a text of any bytes, of any length.
func TestP61AnyGroup(t *testing.T) {
	long := strings.Repeat("g", 1<<20)
	was := []item{{"", 1}, {"\x00", 2}, {"\xff\xfe", 3}, {long, 4}, {long + "h", 5}, {"é", 6}, {"", 7}, {"é", 8}, {long, 9}}
	l := with(was...)
	wantLanes(t, l, was...)
	wantNone(t, l, "e\u0301", long[1:], "\xff", "\x00\x00")
}

func TestP61Drop(t *testing.T) {
	all := []item{{"a", 5}, {"b", 4}, {"a", 3}, {"c", 2}, {"a", 1}, {"b", 0}}
	for i, x := range all {
		l := with(all...)
		if !l.Drop(x.id) {
			t.Fatal("Drop of", x, "that is there")
		}
		left := slices.Delete(slices.Clone(all), i, i+1)
		wantLanes(t, l, left...)
		wantAbsent(t, l, x.id, 6, -1, least, most)
		if !l.Add(x.group, x.id) {
			t.Fatal("Add of", x, "that was dropped")
		}
		wantLanes(t, l, append(left, x)...)
	}
	l := with(item{"a", 1})
	if !l.Drop(1) || l.Drop(1) {
		t.Fatal("Drop of the only item, twice")
	}
	wantLanes(t, l)
	wantNone(t, l, "a")
}

// An item that was dropped may be added to another group, as the last one there.
func TestP61DropAddElsewhere(t *testing.T) {
	l := with(item{"a", 1}, item{"b", 2}, item{"b", 3})
	l.Drop(1)
	wantNone(t, l, "a")
	if !l.Add("b", 1) {
		t.Fatal("Add of 1 to b")
	}
	wantLanes(t, l, item{"b", 2}, item{"b", 3}, item{"b", 1})
	wantNone(t, l, "a")
	l.Drop(2)
	l.Add("a", 2)
	wantLanes(t, l, item{"b", 3}, item{"b", 1}, item{"a", 2})
}

func TestP61Group(t *testing.T) {
	l := with(item{"a", 0}, item{"", -3}, item{"b", least}, item{"a", most})
	for id, want := range map[int]string{0: "a", -3: "", least: "b", most: "a"} {
		if group, is := l.Group(id); !is || group != want {
			t.Errorf("Group of %d is %q, %v", id, group, is)
		}
	}
	wantAbsent(t, l, 1, 3, least+1, most-1)
	l.Drop(0)
	wantAbsent(t, l, 0)
}

// The head is the item that was added first, not the one with the least number.
func TestP61Head(t *testing.T) {
	l := with(item{"a", 9}, item{"a", 1}, item{"b", 0}, item{"a", 5}, item{"", -1})
	for _, c := range []struct {
		group string
		want  int
	}{{"a", 9}, {"b", 0}, {"", -1}} {
		for range 3 { // it stays
			if id, is := l.Head(c.group); !is || id != c.want {
				t.Errorf("Head of %q is %d, %v", c.group, id, is)
			}
		}
	}
	for _, want := range []int{1, 5} {
		id, _ := l.Head("a")
		l.Drop(id)
		if id, is := l.Head("a"); !is || id != want {
			t.Errorf("Head of a is %d, %v, not %d", id, is, want)
		}
	}
	l.Drop(5)
	l.Drop(0)
	wantNone(t, l, "a", "b", "c")
	wantLanes(t, l, item{"", -1})
}

// The order is that in which the heads were added, not that in which the groups came, nor that of texts or numbers.
func TestP61Heads(t *testing.T) {
	l := with(item{"a", 6}, item{"b", 5}, item{"c", 4}, item{"b", 3}, item{"a", 2}, item{"c", 1})
	wantIds(t, "Heads", l.Heads(), 6, 5, 4)
	l.Drop(6)
	wantIds(t, "Heads", l.Heads(), 5, 4, 2)
	l.Drop(4)
	wantIds(t, "Heads", l.Heads(), 5, 2, 1)
	l.Drop(5)
	wantIds(t, "Heads", l.Heads(), 3, 2, 1)
	l.Drop(2)
	wantIds(t, "Heads", l.Heads(), 3, 1)
	l.Add("a", 9)
	l.Add("A", 0)
	wantIds(t, "Heads", l.Heads(), 3, 1, 9, 0)
	l.Drop(1)
	l.Drop(3)
	wantIds(t, "Heads", l.Heads(), 9, 0)
}

func TestP61OfAll(t *testing.T) {
	l := with(item{"b", 4}, item{"a", 3}, item{"b", 2}, item{"c", 9}, item{"b", 3}, item{"b", 7}, item{"a", 1})
	wantIds(t, "All", l.All(), 4, 3, 2, 9, 7, 1)
	wantIds(t, "Of a", l.Of("a"), 3, 1)
	wantIds(t, "Of b", l.Of("b"), 4, 2, 7)
	wantIds(t, "Of c", l.Of("c"), 9)
	wantNone(t, l, "", "d")
	l.Drop(2)
	wantIds(t, "All", l.All(), 4, 3, 9, 7, 1)
	wantIds(t, "Of b", l.Of("b"), 4, 7)
	if l.Len() != 5 {
		t.Error("Len is", l.Len())
	}
}

func TestP61Copy(t *testing.T) {
	was := []item{{"a", 3}, {"b", 1}, {"a", 2}, {"b", 4}}
	l := with(was...)
	c := l.Copy()
	wantLanes(t, c, was...)
	c.Drop(3)
	c.Add("c", 5)
	c.Add("b", 3)
	c.Drop(1)
	wantLanes(t, l, was...)
	copied := []item{{"a", 2}, {"b", 4}, {"c", 5}, {"b", 3}}
	wantLanes(t, c, copied...)
	l.Drop(2)
	l.Drop(4)
	l.Add("d", 6)
	wantLanes(t, c, copied...)
	wantLanes(t, c.Copy().Copy(), copied...)
	wantLanes(t, l, item{"a", 3}, item{"b", 1}, item{"d", 6})
	wantNone(t, c, "d")
	wantNone(t, l, "c")
}

// What a copy gets behind its items does not land in the lanes, nor in another copy, nor the other way round.
func TestP61CopyBehind(t *testing.T) {
	l := lane.New()
	var was []item
	for i := range 40 {
		one, two := l.Copy(), l.Copy()
		one.Add("a", 1000)
		two.Add("a", 2000)
		l.Add("a", i)
		wantLanes(t, one, append(slices.Clone(was), item{"a", 1000})...)
		wantLanes(t, two, append(slices.Clone(was), item{"a", 2000})...)
		was = append(was, item{"a", i})
		wantLanes(t, l, was...)
	}
}

// What is returned is new memory: the lanes do not change when it does, nor it when the lanes do.
func TestP61NewMemory(t *testing.T) {
	was := []item{{"a", 3}, {"b", 1}, {"a", 2}, {"a", 4}, {"b", 5}, {"a", 6}}
	l := with(was...)
	for _, list := range []func() []int{l.All, l.Heads, func() []int { return l.Of("a") }, func() []int { return l.Of("b") }} {
		one, two := list(), list()
		want := slices.Clone(one)
		clear(one[:cap(one)])
		wantIds(t, "the same list", two, want...)
		wantLanes(t, l, was...)
		one = list()
		clear(two[:cap(two)])
		wantIds(t, "the same list", one, want...)
		c := l.Copy()
		c.Drop(3)
		c.Add("b", 7)
		wantIds(t, "the same list", one, want...)
	}
	all, heads, of := l.All(), l.Heads(), l.Of("a")
	l.Drop(3)
	l.Drop(1)
	l.Add("a", 8)
	wantIds(t, "All", all, 3, 1, 2, 4, 5, 6)
	wantIds(t, "Heads", heads, 3, 1)
	wantIds(t, "Of a", of, 3, 2, 4, 6)
}

// The lists do not depend on the order of a map.
func TestP61Determinism(t *testing.T) {
	var was []item
	for i := range 26 {
		was = append(was, item{string(rune('z' - i)), i * 7 % 26})
	}
	l := with(was...)
	for range 50 {
		wantLanes(t, l, was...)
	}
}

// All calls end soon, however many items there are.
func TestP61Many(t *testing.T) {
	const many, groups = 1 << 17, 1 << 10
	group := func(id int) string { return string([]byte{byte(id % groups), byte(id % groups >> 8)}) }
	l := lane.New()
	for i := range many {
		if !l.Add(group(i), i) {
			t.Fatal("Add of", i)
		}
	}
	for i := range many {
		if l.Add(group(i+1), i) {
			t.Fatal("Add again of", i)
		}
	}
	var want []item
	for i := range many {
		if i/groups%2 == 1 {
			want = append(want, item{group(i), i})
		} else if !l.Drop(i) {
			t.Fatal("Drop of", i)
		}
	}
	wantLanes(t, l, want...)
	for _, x := range want {
		if id, is := l.Head(x.group); !is || id != x.id {
			t.Fatal("Head is", id, is, "not", x)
		}
		l.Drop(x.id)
	}
	wantLanes(t, l)
}
