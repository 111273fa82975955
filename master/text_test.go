package master_test

import (
	"regexp"
	"slices"
	"strconv"
	"strings"
	"testing"

	"daisychain/api"
	"daisychain/master"
)

// A line of a table, and a number of an order, as the document's words say them, but for what depends on other numbers.
var (
	lineForm   = regexp.MustCompile(`^([0-9]) ([1-9][0-9]*) ([01])((?: (?:[0-9]|[1-9][0-9])){1,7})$`)
	numberForm = regexp.MustCompile(`^(0|-?[1-9][0-9]*)$`)
)

// isTable tells whether a text is that of a table.
func isTable(s string) bool {
	if s == "" {
		return true
	}
	lines, whole := strings.CutSuffix(s, "\n")
	last := ""
	for _, l := range strings.Split(lines, "\n") {
		x := lineForm.FindStringSubmatch(l)
		if x == nil || x[1] <= last || !fits(x[2]) {
			return false
		}
		members := strings.Fields(x[4])
		sorted := slices.Compact(slices.Sorted(slices.Values(members)))
		if len(sorted) < len(members) || x[3] == "1" && len(members) < 2 {
			return false
		}
		last = x[1]
	}
	return whole
}

// isOrder tells whether a text is that of an order.
func isOrder(s string) bool {
	words := strings.Split(s, " ")
	for _, w := range words {
		if !numberForm.MatchString(w) || !fits(w) {
			return false
		}
	}
	return len(words) >= 4
}

// fits tells whether the digits of a number are not too many.
func fits(digits string) bool {
	_, err := strconv.ParseInt(digits, 10, 64)
	return err == nil
}

// wantRead checks what Read makes of a text.
func wantRead(t testing.TB, s string) {
	t.Helper()
	x, e := master.Read(s)
	switch {
	case !isTable(s) && (e != api.ErrForm || x != nil):
		t.Fatalf("Read of %q: %v, %v", short(s), x, e)
	case !isTable(s):
	case e != api.OK || x == nil:
		t.Fatalf("Read of %q: %v, %v", short(s), x, e)
	default:
		wantTable(t, x, strings.Split(s, "\n")[:strings.Count(s, "\n")]...)
	}
}

// wantReadOrder checks what ReadOrder makes of a text.
func wantReadOrder(t testing.TB, s string) {
	t.Helper()
	o, e := master.ReadOrder(s)
	if !isOrder(s) {
		if e != api.ErrForm || !same(o, master.Order{}) {
			t.Fatalf("ReadOrder of %q: %v, %v", short(s), o, e)
		}
		return
	}
	var l []int
	for _, w := range strings.Split(s, " ") {
		n, _ := strconv.Atoi(w)
		l = append(l, n)
	}
	if want := (master.Order{Kind: l[0], Shard: l[1], Epoch: l[2], Node: l[3], Members: l[4:]}); e != api.OK || !same(o, want) {
		t.Fatalf("ReadOrder of %q: %v, %v", short(s), o, e)
	}
	if got := master.Write(o); got != s {
		t.Fatalf("Write of %v: %q", o, got)
	}
}

// same compares orders.
func same(a, b master.Order) bool {
	return a.Kind == b.Kind && a.Shard == b.Shard && a.Epoch == b.Epoch && a.Node == b.Node && slices.Equal(a.Members, b.Members)
}

// short is what a fault tells of a text.
func short(s string) string { return s[:min(len(s), 80)] }

// near tries all texts that differ from one by one byte: another one, one more, or one less.
func near(t testing.TB, s string, bytes string, want func(t testing.TB, s string)) {
	t.Helper()
	want(t, s)
	for i := range len(s) + 1 {
		for _, b := range strings.Split(bytes, "") {
			want(t, s[:i]+b+s[i:])
			if i < len(s) {
				want(t, s[:i]+b+s[i+1:])
			}
		}
		if i < len(s) {
			want(t, s[:i]+s[i+1:])
			want(t, s[:i])
		}
	}
}

// tables are texts of tables.
func tables() []string {
	return []string{
		"", "0 1 0 0\n", "9 1 1 99 0\n", "3 12 1 7 0 99\n", "0 1 0 5\n3 12 1 7 10 99\n9 4 0 1 2 3 4 5 6 7\n", "4 9223372036854775807 0 98\n",
		"0 1 0 0\n1 2 0 1\n2 3 0 2\n3 4 0 3\n4 5 0 4\n5 6 0 5\n6 7 0 6\n7 8 0 7\n8 9 0 8\n9 10 1 9 10\n", "5 20 1 1 2 3 4 5 6 70\n",
	}
}

func TestP133Text(t *testing.T) {
	x := master.New()
	if got := x.Text(); got != "" {
		t.Errorf("%q", got)
	}
	for _, o := range []master.Order{
		initial(9, 99), initial(0, 7, 1, 0), initial(4, 1, 2, 3), order(master.Join, 4, 1, 40), order(master.Drop, 0, 1, 1),
	} {
		if e := x.Do(o); e != api.OK {
			t.Fatal("Do:", e)
		}
	}
	if got, want := x.Text(), "0 2 0 7 0\n4 2 1 1 2 3 40\n9 1 0 99\n"; got != want {
		t.Errorf("%q, want %q", got, want)
	}
}

func TestP133Read(t *testing.T) {
	for _, s := range tables() {
		if !isTable(s) {
			t.Errorf("the model: %q", s)
		}
		near(t, s, "0123456789 \n+-\x00_\t\r.a\xff", wantRead)
	}
}

// These are lines of a table, though no order leads to some of them.
func TestP133ReadAny(t *testing.T) {
	for s, want := range map[string][]string{
		"2 1 1 4 5\n":                       {"2 1 1 4 5"},
		"2 1 1 5 4 3 2 1 0 99\n":            {"2 1 1 5 4 3 2 1 0 99"},
		"2 9223372036854775807 0 4\n":       {"2 9223372036854775807 0 4"},
		"0 5 0 1\n9 5 1 1 2\n":              {"0 5 0 1", "9 5 1 1 2"},
		"0 5 0 1\n1 5 0 1\n2 5 0 1\n":       {"0 5 0 1", "1 5 0 1", "2 5 0 1"},
		"0 1000 0 10 20 30 40 50 60 70\n":   {"0 1000 0 10 20 30 40 50 60 70"},
		"8 1000 1 10 20\n9 1000 1 20 10\n":  {"8 1000 1 10 20", "9 1000 1 20 10"},
		"7 10 1 10 20\n9 100 1 20 10 5 6\n": {"7 10 1 10 20", "9 100 1 20 10 5 6"},
	} {
		x, e := master.Read(s)
		if e != api.OK {
			t.Fatalf("Read of %q: %v", s, e)
		}
		wantTable(t, x, want...)
	}
}

func TestP133ReadWrong(t *testing.T) {
	for _, s := range []string{
		"\n", " ", " \n", "0", "0\n", "0 1\n", "0 1 0\n", "0 1 0 \n", "0 1 0", "0 1 0 1", "0 1 0 1 \n", " 0 1 0 1\n", "0  1 0 1\n", "0 1 0 1\n\n", "\n0 1 0 1\n",
		"0 1 0 1\r\n", "0 1 0 1\n1 1 0 1", "0\t1 0 1\n", "0 1 0 1\n ",
		"10 1 0 1\n", "-1 1 0 1\n", "00 1 0 1\n", "+0 1 0 1\n", "-0 1 0 1\n", "x 1 0 1\n", "\x00 1 0 1\n", "٣ 1 0 1\n",
		"0 0 0 1\n", "0 -1 0 1\n", "0 01 0 1\n", "0 +1 0 1\n", "0 1_0 0 1\n", "0 0x1 0 1\n", "0 1. 0 1\n", "0 1e1 0 1\n",
		"0 9223372036854775808 0 1\n", "0 18446744073709551617 0 1\n", "0 -9223372036854775808 0 1\n", "0 100000000000000000000000 0 1\n",
		"0 1 2 1 2\n", "0 1 -1 1 2\n", "0 1 10 1 2\n", "0 1 00 1 2\n", "0 1 01 1 2\n", "0 1 true 1 2\n",
		"0 1 1 1\n", "0 1 1\n", "0 1 0 1 1\n", "0 1 0 1 2 1\n", "0 1 1 1 1\n", "0 1 1 1 2 2\n", "0 1 0 0 0\n",
		"0 1 0 100\n", "0 1 0 -1\n", "0 1 0 01\n", "0 1 0 -0\n", "0 1 0 1 2 3 4 5 6 7 8\n", "0 1 1 1 2 3 4 5 6 7 8\n", "0 1 0 1 x\n",
		"1 1 0 1\n0 1 0 1\n", "0 1 0 1\n0 1 0 1\n", "0 1 0 1\n0 2 0 1\n", "0 1 0 1\n2 1 0 1\n1 1 0 1\n", "9 1 0 1\n10 1 0 1\n",
		"0 1 0 1\n\n1 1 0 1\n", "0 1 0 1\nx\n", "0 1 0 1;1 1 0 1\n", "0 1 0 1 1 1 0 1\n",
		strings.Repeat("0 1 0 1\n", 100000), strings.Repeat("\n", 100000), strings.Repeat(" ", 100000), strings.Repeat("9", 100000),
		"0 1 0" + strings.Repeat(" 1", 100000) + "\n", "0 1 0 1" + strings.Repeat(" ", 100000) + "\n", strings.Repeat("\xff", 1000),
	} {
		if isTable(s) {
			t.Errorf("the model: %q", short(s))
		}
		wantRead(t, s)
	}
}

// Tables that are read from one text have nothing to do with each other, and do orders as any others do.
func TestP133ReadIsNew(t *testing.T) {
	s := "1 4 0 1 2\n4 7 1 1 2 3\n"
	x, y := of(t, "1 4 0 1 2", "4 7 1 1 2 3"), of(t, "1 4 0 1 2", "4 7 1 1 2 3")
	wantDo(t, x, order(master.Drop, 4, 7, 1), api.OK, "1 4 0 1 2", "4 8 1 2 3")
	wantDo(t, x, order(master.Join, 1, 4, 3), api.OK, "1 5 1 1 2 3", "4 8 1 2 3")
	wantTable(t, y, "1 4 0 1 2", "4 7 1 1 2 3")
	if s != y.Text() {
		t.Errorf("%q", y.Text())
	}
}

// orders are orders with their texts.
func orders() map[string]master.Order {
	return map[string]master.Order{
		"0 0 0 0":                       {},
		"0 4 0 0 1 2 3":                 initial(4, 1, 2, 3),
		"1 4 7 2":                       order(master.Drop, 4, 7, 2),
		"2 9 10 99":                     order(master.Join, 9, 10, 99),
		"3 0 1 0":                       order(master.Full, 0, 1, 0),
		"-1 -2 -3 -4 -5 -6":             {Kind: -1, Shard: -2, Epoch: -3, Node: -4, Members: []int{-5, -6}},
		"3 10 100 1000 0":               {Kind: 3, Shard: 10, Epoch: 100, Node: 1000, Members: []int{0}},
		"9 9 9 9 7 7 7 7 7 7 7 7 7 7 7": {Kind: 9, Shard: 9, Epoch: 9, Node: 9, Members: []int{7, 7, 7, 7, 7, 7, 7, 7, 7, 7, 7}},
		"9223372036854775807 -9223372036854775808 9223372036854775807 -9223372036854775808": {Kind: most, Shard: least, Epoch: most, Node: least},
		"0 0 0 0 -9223372036854775808 9223372036854775807 0":                                {Members: []int{least, most, 0}},
	}
}

func TestP133Write(t *testing.T) {
	for s, o := range orders() {
		members := slices.Clone(o.Members)
		if got := master.Write(o); got != s {
			t.Errorf("Write of %v: %q, want %q", o, got, s)
		}
		if !slices.Equal(o.Members, members) {
			t.Errorf("members: %v, not %v", o.Members, members)
		}
	}
	if got := master.Write(master.Order{Members: []int{}}); got != "0 0 0 0" {
		t.Errorf("%q", got)
	}
}

// Write modifies nothing of its argument, not even where the list has more room.
func TestP133WriteLeaves(t *testing.T) {
	members := append(make([]int, 0, 8), 1, 2)
	master.Write(initial(0, members...))
	if l := members[:8]; !slices.Equal(l, []int{1, 2, 0, 0, 0, 0, 0, 0}) {
		t.Error(l)
	}
}

func TestP133ReadOrder(t *testing.T) {
	for s, want := range orders() {
		o, e := master.ReadOrder(s)
		if e != api.OK || !same(o, want) {
			t.Errorf("ReadOrder of %q: %v, %v", s, o, e)
		}
		near(t, s, "0123456789 \n+-\x00_\t\r.a\xff", wantReadOrder)
	}
	long := "1 2 3 4" + strings.Repeat(" 5", 100000)
	wantReadOrder(t, long)
}

func TestP133ReadOrderWrong(t *testing.T) {
	for _, s := range []string{
		"", " ", "\n", "0", "0 0", "0 0 0", "0 0 0 ", " 0 0 0", "0 0  0", " 0 0 0 0", "0 0 0 0 ", "0 0 0 0\n", "\n0 0 0 0", "0 0\n0 0", "0\t0 0 0 0",
		"00 0 0 0", "-0 0 0 0", "+0 0 0 0", "0 +1 0 0", "0 01 0 0", "0 -01 0 0", "0 0 - 0", "0 0 -- 0", "0 0 0 --1", "0 0 0 0 x", "0 0 0 0 1 01", "0 0 0 0 1_0", "0 0x1 0 0",
		"0 0 9223372036854775808 0", "0 0 -9223372036854775809 0", "0 0 18446744073709551616 0", "0 0 0 0 99999999999999999999",
		"0,0,0,0", "0 0 0 0,1", "0 0 0 1.0", "0 0 0 1e3", "٣ 0 0 0", "0 0 0 0\x00", "\xff 0 0 0",
		strings.Repeat(" ", 100000), strings.Repeat("9", 100000), strings.Repeat("0 ", 100000), "1 2 3 4" + strings.Repeat(" 05", 100000),
	} {
		if isOrder(s) {
			t.Errorf("the model: %q", short(s))
		}
		wantReadOrder(t, s)
	}
}

// What ReadOrder returns is new memory.
func TestP133ReadOrderIsNew(t *testing.T) {
	a, _ := master.ReadOrder("0 1 0 0 5 6 7")
	b, _ := master.ReadOrder("0 1 0 0 5 6 7")
	a.Members[0] = 50
	_ = append(a.Members, 51)
	_ = append(a.Members[:1], 52)
	if !same(b, initial(1, 5, 6, 7)) {
		t.Error(b)
	}
}

func FuzzP133Read(f *testing.F) {
	for _, s := range tables() {
		f.Add(s)
	}
	f.Fuzz(func(t *testing.T, s string) { wantRead(t, s) })
}

func FuzzP133ReadOrder(f *testing.F) {
	for s := range orders() {
		f.Add(s)
	}
	f.Fuzz(func(t *testing.T, s string) { wantReadOrder(t, s) })
}
