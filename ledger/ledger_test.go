package ledger_test

import (
	"math"
	"slices"
	"strings"
	"testing"

	"daisychain/api"
	"daisychain/ledger"
)

// least and most are the least and the greatest number.
const least, most = math.MinInt, math.MaxInt

// with is a ledger with room for ten values, and with these, put in this order.
func with(rows ...row) *ledger.Ledger[int] {
	l := ledger.New[int](10)
	for _, x := range rows {
		l.Put(x.key, x.v, x.until)
	}
	return l
}

// wantKeys checks a list of keys.
func wantKeys(t testing.TB, what string, got []string, want ...string) {
	t.Helper()
	if !slices.Equal(got, want) {
		t.Fatalf("%s: %q, not %q", what, got, want)
	}
}

// wantLedger checks all that a ledger tells without a change; want are its values, in any order.
func wantLedger(t testing.TB, got *ledger.Ledger[int], want ...row) {
	t.Helper()
	var keys []string
	for _, x := range want {
		if v, is := got.Get(x.key); !is || v != x.v {
			t.Fatalf("Get of %q is %d, %v of %v", x.key, v, is, want)
		}
		if until, is := got.Until(x.key); !is || until != x.until {
			t.Fatalf("Until of %q is %d, %v of %v", x.key, until, is, want)
		}
		keys = append(keys, x.key)
	}
	slices.Sort(keys)
	wantKeys(t, "Keys", got.Keys(), keys...)
	if got.Len() != len(want) {
		t.Fatalf("Len is %d of %v", got.Len(), want)
	}
}

// wantAbsent checks that a ledger has no values with these keys.
func wantAbsent(t testing.TB, got *ledger.Ledger[int], keys ...string) {
	t.Helper()
	for _, key := range keys {
		if v, is := got.Get(key); is || v != 0 {
			t.Fatalf("Get of %q, which is not there, is %d, %v", key, v, is)
		}
		if until, is := got.Until(key); is || until != 0 {
			t.Fatalf("Until of %q, which is not there, is %d, %v", key, until, is)
		}
		before := got.Keys()
		if got.Drop(key) {
			t.Fatalf("Drop of %q, which is not there", key)
		}
		wantKeys(t, "Keys", got.Keys(), before...)
	}
}

// wantPut puts a value, and checks what Put returns.
func wantPut(t testing.TB, l *ledger.Ledger[int], want api.Errno, x row) {
	t.Helper()
	if e := l.Put(x.key, x.v, x.until); e != want {
		t.Fatalf("Put of %v: %v, not %v", x, e, want)
	}
}

func TestP71Example(t *testing.T) {
	l := with(row{"a", 1, 5}, row{"b", 2, 3})
	wantKeys(t, "Sweep", l.Sweep(4), "b")
	wantLedger(t, l, row{"a", 1, 5})
}

func TestP71New(t *testing.T) {
	for _, room := range []int{0, 1, 10, -1, least, most} {
		l := ledger.New[int](room)
		wantLedger(t, l)
		wantAbsent(t, l, "", "a", "\x00")
		wantKeys(t, "Sweep", l.Sweep(most))
		wantLedger(t, l.Copy())
	}
	l, other := ledger.New[int](5), ledger.New[int](5)
	wantPut(t, other, api.OK, row{"a", 1, 5})
	wantLedger(t, l)
}

// As many values have room as New was told, and no more.
func TestP71Room(t *testing.T) {
	for _, c := range []struct{ room, want int }{{0, 0}, {-1, 0}, {least, 0}, {1, 1}, {2, 2}, {7, 7}, {most, 26}} {
		l := ledger.New[int](c.room)
		var want []row
		for i := range 26 {
			x := row{string(rune('z' - i)), i, -i}
			if i < c.want {
				wantPut(t, l, api.OK, x)
				want = append(want, x)
			} else {
				wantPut(t, l, api.ErrFull, x)
				wantAbsent(t, l, x.key)
			}
			wantLedger(t, l, want...)
		}
	}
}

// A Put that returns an error changes nothing, and gives a copy no other room.
func TestP71Full(t *testing.T) {
	was := []row{{"a", 1, 5}, {"b", 2, 3}}
	l := ledger.New[int](2)
	for _, x := range was {
		wantPut(t, l, api.OK, x)
	}
	for _, full := range []*ledger.Ledger[int]{l, l.Copy(), l.Copy().Copy()} {
		for _, x := range []row{{"c", 3, 9}, {"", 0, 0}, {"A", 1, least}, {"aa", 1, 5}} {
			wantPut(t, full, api.ErrFull, x)
			wantLedger(t, full, was...)
			wantAbsent(t, full, x.key)
		}
		wantKeys(t, "Sweep", full.Copy().Sweep(most), "b", "a")
	}
}

// Room that was made, by a Drop or a Sweep, is room for another value.
func TestP71RoomAgain(t *testing.T) {
	l := ledger.New[int](2)
	wantPut(t, l, api.OK, row{"a", 1, 5})
	wantPut(t, l, api.OK, row{"b", 2, 3})
	wantPut(t, l, api.ErrFull, row{"c", 3, 4})
	l.Drop("a")
	wantPut(t, l, api.OK, row{"c", 3, 4})
	wantPut(t, l, api.ErrFull, row{"a", 4, 1})
	wantLedger(t, l, row{"b", 2, 3}, row{"c", 3, 4})
	wantKeys(t, "Sweep", l.Sweep(2))
	wantPut(t, l, api.ErrFull, row{"a", 4, 1})
	wantKeys(t, "Sweep", l.Sweep(3), "b")
	wantPut(t, l, api.OK, row{"a", 4, 1})
	wantPut(t, l, api.ErrFull, row{"b", 5, 5})
	wantLedger(t, l, row{"a", 4, 1}, row{"c", 3, 4})
}

// A Put with a key that is there replaces both the value and the time, whether there is room for another one or not.
func TestP71Replace(t *testing.T) {
	for _, room := range []int{2, 3} {
		l := ledger.New[int](room)
		wantPut(t, l, api.OK, row{"a", 1, 5})
		wantPut(t, l, api.OK, row{"b", 2, 3})
		for _, x := range []row{{"b", 3, 3}, {"b", 3, 9}, {"b", 0, -1}, {"b", -4, least}, {"b", 5, most}, {"b", 5, most}, {"b", 2, 4}} {
			wantPut(t, l, api.OK, x)
			wantLedger(t, l, row{"a", 1, 5}, x)
		}
		wantKeys(t, "Sweep", l.Sweep(3)) // the earlier times of b are not known any more
		wantPut(t, l, api.OK, row{"a", 9, 2})
		wantKeys(t, "Sweep", l.Sweep(5), "a", "b")
		wantLedger(t, l)
	}
}

// A key is a text of any bytes, of any length.
func TestP71AnyKey(t *testing.T) {
	long := strings.Repeat("k", 1<<20)
	was := []row{{"", 1, 1}, {"\x00", 2, 2}, {"\xff\xfe", 3, 3}, {long, 4, 4}, {long + "l", 5, 4}, {"é", 6, 6}, {"a", 7, 7}, {"A", 8, 7}}
	l := with(was...)
	wantLedger(t, l, was...)
	wantAbsent(t, l, "e\u0301", long[1:], "\xff", "\x00\x00", "b", "aa", " ")
	if v, is := l.Get(string([]byte{'a'})); !is || v != 7 {
		t.Error("Get of the same text elsewhere in memory:", v, is)
	}
	wantKeys(t, "Sweep", l.Sweep(9), "", "\x00", "\xff\xfe", long, long+"l", "é", "A", "a")
}

// A zero value, and the time 0, are there as others are.
func TestP71Zero(t *testing.T) {
	l := with(row{"", 0, 0}, row{"a", 0, 5}, row{"b", 5, 0})
	wantLedger(t, l, row{"", 0, 0}, row{"a", 0, 5}, row{"b", 5, 0})
	wantKeys(t, "Sweep", l.Sweep(-1))
	if !l.Drop("") {
		t.Error("Drop of the empty key")
	}
	wantAbsent(t, l, "")
}

func TestP71Drop(t *testing.T) {
	all := []row{{"b", 1, 5}, {"a", 2, 5}, {"", 3, 0}, {"d", 4, least}, {"c", 5, most}}
	for i, x := range all {
		l := with(all...)
		if !l.Drop(x.key) {
			t.Fatal("Drop of", x, "that is there")
		}
		left := slices.Delete(slices.Clone(all), i, i+1)
		wantLedger(t, l, left...)
		wantAbsent(t, l, x.key, "e", "ab")
		wantPut(t, l, api.OK, row{x.key, 6, 7})
		wantLedger(t, l, append(left, row{x.key, 6, 7})...)
	}
	l := with(row{"a", 1, 1})
	if !l.Drop("a") || l.Drop("a") {
		t.Fatal("Drop of the only value, twice")
	}
	wantLedger(t, l)
	wantKeys(t, "Sweep", l.Sweep(most))
}

// What is known until now, or until an earlier time, is swept; what is known for longer stays.
func TestP71SweepEdge(t *testing.T) {
	for _, at := range []int{0, 1, -1, 1000, api.MaxTime, least + 1, most - 1} {
		l := with(row{"now", 1, at}, row{"later", 2, at + 1}, row{"past", 3, at - 1})
		wantKeys(t, "Sweep", l.Sweep(at-1), "past")
		wantKeys(t, "Sweep", l.Sweep(at-1))
		wantLedger(t, l, row{"now", 1, at}, row{"later", 2, at + 1})
		wantKeys(t, "Sweep", l.Sweep(at), "now")
		wantAbsent(t, l, "now", "past")
		wantLedger(t, l, row{"later", 2, at + 1})
		wantKeys(t, "Sweep", l.Sweep(at+1), "later")
		wantLedger(t, l)
	}
}

// The least and the greatest time are swept as others are.
func TestP71SweepEnds(t *testing.T) {
	was := []row{{"last", 1, most}, {"first", 2, least}, {"a", 3, 0}}
	l := with(was...)
	wantKeys(t, "Sweep", l.Copy().Sweep(most), "first", "a", "last")
	wantKeys(t, "Sweep", l.Sweep(least), "first")
	wantKeys(t, "Sweep", l.Sweep(most-1), "a")
	wantLedger(t, l, was[0])
	wantKeys(t, "Sweep", l.Sweep(most), "last")
	wantLedger(t, l)
}

// The order is that of the times, then that of the keys, not that of the puts, nor that of the values.
func TestP71SweepOrder(t *testing.T) {
	l := with(row{"c", 1, 5}, row{"a", 9, 5}, row{"b", 2, 3}, row{"", 8, 5}, row{"d", 3, -7}, row{"B", 7, 3}, row{"ab", 4, 5}, row{"a\x00", 6, 5}, row{"z", 5, 6})
	wantKeys(t, "Sweep", l.Sweep(5), "d", "B", "b", "", "a", "a\x00", "ab", "c")
	wantLedger(t, l, row{"z", 5, 6})
}

// A ledger keeps no time of its own: a value may be put, or a sweep be made, for a time that is past.
func TestP71SweepBack(t *testing.T) {
	l := with(row{"a", 1, 5}, row{"b", 2, 20})
	wantKeys(t, "Sweep", l.Sweep(10), "a")
	wantPut(t, l, api.OK, row{"a", 3, 4})
	wantPut(t, l, api.OK, row{"c", 4, 9})
	wantLedger(t, l, row{"a", 3, 4}, row{"b", 2, 20}, row{"c", 4, 9})
	wantKeys(t, "Sweep", l.Sweep(6), "a")
	wantKeys(t, "Sweep", l.Sweep(6))
	wantLedger(t, l, row{"b", 2, 20}, row{"c", 4, 9})
}

func TestP71Keys(t *testing.T) {
	l := with(row{"b", 1, 1}, row{"\xff", 2, 0}, row{"a", 3, 9}, row{"", 4, 4}, row{"B", 5, 3}, row{"aa", 6, 2}, row{"é", 7, 1})
	wantKeys(t, "Keys", l.Keys(), "", "B", "a", "aa", "b", "é", "\xff")
	if l.Len() != 7 {
		t.Error("Len is", l.Len())
	}
	l.Drop("a")
	l.Drop("")
	l.Put("b", 8, 8)
	wantKeys(t, "Keys", l.Keys(), "B", "aa", "b", "é", "\xff")
	if l.Len() != 5 {
		t.Error("Len is", l.Len())
	}
}

func TestP71Copy(t *testing.T) {
	was := []row{{"a", 1, 5}, {"b", 2, 3}, {"c", 3, 4}}
	l := with(was...)
	c := l.Copy()
	wantLedger(t, c, was...)
	c.Put("a", 9, 9)
	c.Drop("b")
	c.Put("d", 4, 1)
	wantLedger(t, l, was...)
	copied := []row{{"a", 9, 9}, {"c", 3, 4}, {"d", 4, 1}}
	wantLedger(t, c, copied...)
	wantKeys(t, "Sweep", l.Sweep(4), "b", "c")
	l.Put("e", 5, 2)
	l.Put("a", 6, 6)
	wantLedger(t, c, copied...)
	wantLedger(t, c.Copy().Copy(), copied...)
	wantLedger(t, l, row{"a", 6, 6}, row{"e", 5, 2})
	wantKeys(t, "Sweep", c.Copy().Sweep(9), "d", "c", "a")
	wantLedger(t, c, copied...)
}

// What is returned is new memory: the ledger does not change when it does, nor it when the ledger does.
func TestP71NewMemory(t *testing.T) {
	was := []row{{"a", 1, 5}, {"b", 2, 3}, {"c", 3, 4}}
	l := with(was...)
	one, two := l.Keys(), l.Keys()
	clear(one[:cap(one)])
	wantKeys(t, "the same list", two, "a", "b", "c")
	wantLedger(t, l, was...)
	c := l.Copy()
	one, swept := l.Sweep(4), c.Sweep(4)
	clear(one[:cap(one)])
	wantKeys(t, "the list of the copy", swept, "b", "c")
	wantKeys(t, "the same list", two, "a", "b", "c")
	wantLedger(t, l, was[0])
	wantPut(t, l, api.OK, row{"b", 4, 9})
	wantPut(t, c, api.OK, row{"z", 5, 9})
	wantKeys(t, "the list of the copy", swept, "b", "c")
}

// The values are retained as they are, and a copy shares them.
func TestP71Shared(t *testing.T) {
	l := ledger.New[[]int](3)
	list := []int{1, 2, 3}
	l.Put("a", list, 5)
	l.Put("none", nil, 5)
	c := l.Copy()
	list[0] = 9
	for _, x := range []*ledger.Ledger[[]int]{l, c} {
		if v, is := x.Get("a"); !is || len(v) != 3 || &v[0] != &list[0] {
			t.Error("Get of a:", v, is)
		}
		if v, is := x.Get("none"); !is || v != nil {
			t.Error("Get of a nil list:", v, is)
		}
		if v, is := x.Get("b"); is || v != nil {
			t.Error("Get of b, which is not there:", v, is)
		}
	}
}

// A ledger has values of whatever type, those too that cannot be compared.
func TestP71AnyType(t *testing.T) {
	f := ledger.New[func() int](1)
	f.Put("a", func() int { return 7 }, 1)
	if v, is := f.Get("a"); !is || v() != 7 {
		t.Error("Get of a function:", is)
	}
	if v, is := f.Get("b"); is || v != nil {
		t.Error("Get of no function:", is)
	}
	e := ledger.New[error](2)
	e.Put("a", api.ErrFull, 1)
	e.Put("b", nil, 1)
	if v, is := e.Get("a"); !is || v != api.ErrFull {
		t.Error("Get of an error:", v, is)
	}
	if v, is := e.Get("b"); !is || v != nil {
		t.Error("Get of a nil error:", v, is)
	}
	s := ledger.New[struct{ a, b string }](1)
	s.Put("a", struct{ a, b string }{"x", "y"}, 1)
	if e := s.Put("b", struct{ a, b string }{"z", ""}, 1); e != api.ErrFull {
		t.Error("Put of a second value:", e)
	}
	if v, is := s.Get("a"); !is || v.a != "x" || v.b != "y" {
		t.Error("Get of a struct:", v, is)
	}
	s.Sweep(1)
	if v, is := s.Get("a"); is || v.a != "" || v.b != "" {
		t.Error("Get of no struct:", v, is)
	}
}

// Asking changes nothing.
func TestP71Ask(t *testing.T) {
	l := with()
	for range 3 {
		wantAbsent(t, l, "a")
	}
	wantPut(t, l, api.OK, row{"a", 1, 5})
	for range 3 {
		wantLedger(t, l, row{"a", 1, 5})
		wantAbsent(t, l, "", "b")
	}
}

// The lists do not depend on the order of a map.
func TestP71Determinism(t *testing.T) {
	var rows []row
	for i := range 26 {
		rows = append(rows, row{string(rune('z' - i)), i, i / 13})
	}
	for range 50 {
		l := ledger.New[int](26)
		for _, x := range rows {
			wantPut(t, l, api.OK, x)
		}
		wantLedger(t, l, rows...)
		wantKeys(t, "Sweep", l.Sweep(1), strings.Split("nopqrstuvwxyzabcdefghijklm", "")...)
	}
}

// All calls end soon, however many values there are.
func TestP71Many(t *testing.T) {
	const many, half = 1 << 17, 1 << 16
	key := func(i int) string { return string([]byte{byte(i >> 16), byte(i >> 8), byte(i)}) }
	l := ledger.New[int](many)
	for i := range many {
		wantPut(t, l, api.OK, row{key(i), i, many - i})
	}
	wantPut(t, l, api.ErrFull, row{"a", 1, 1})
	var keys []string
	for i := range half {
		keys = append(keys, key(many-1-i))
	}
	wantKeys(t, "Sweep", l.Sweep(half), keys...)
	var left []row
	for i := range half {
		left = append(left, row{key(i), i, many - i})
	}
	wantLedger(t, l, left...)
	for i := range half {
		if !l.Drop(key(i)) {
			t.Fatal("Drop of", i)
		}
	}
	wantLedger(t, l)
}
