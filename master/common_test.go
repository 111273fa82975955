package master_test

import (
	"math"
	"slices"
	"strconv"
	"strings"
	"testing"

	"daisychain/api"
	"daisychain/master"
)

// least and most are the least and the greatest number.
const least, most = math.MinInt, math.MaxInt

// of is the table with these lines.
func of(t testing.TB, lines ...string) *master.Table {
	t.Helper()
	s := ""
	for _, l := range lines {
		s += l + "\n"
	}
	x, e := master.Read(s)
	if e != api.OK {
		t.Fatalf("Read of %q: %v", s, e)
	}
	return x
}

// initial is an Init of a shard, with these members.
func initial(shard int, members ...int) master.Order {
	return master.Order{Kind: master.Init, Shard: shard, Members: members}
}

// order is another one, for that epoch.
func order(kind, shard, epoch, node int) master.Order {
	return master.Order{Kind: kind, Shard: shard, Epoch: epoch, Node: node}
}

// upTo are the numbers from 0 on, so many.
func upTo(many int) []int {
	l := make([]int, many)
	for i := range l {
		l[i] = i
	}
	return l
}

// wantTable checks all that a table tells; want are its lines.
func wantTable(t testing.TB, x *master.Table, want ...string) {
	t.Helper()
	text := ""
	var shards []int
	lines := map[int]string{}
	for _, l := range want {
		text += l + "\n"
		shards = append(shards, int(l[0]-'0'))
		lines[int(l[0]-'0')] = l
	}
	if got := x.Text(); got != text {
		t.Fatalf("Text: %q, want %q", got, text)
	}
	if got := x.Shards(); !slices.Equal(got, shards) {
		t.Fatalf("Shards: %v, want %v", got, shards)
	}
	for shard := -1; shard <= 10; shard++ {
		c, is := x.Config(shard)
		if got := lineOf(shard, c); is && got != lines[shard] {
			t.Fatalf("Config of %d: %q, want %q", shard, got, lines[shard])
		}
		if lines[shard] == "" {
			wantNoConfig(t, x, shard)
		} else if !is {
			t.Fatalf("Config of %d: none", shard)
		}
	}
}

// wantNoConfig checks that a shard has no configuration.
func wantNoConfig(t testing.TB, x *master.Table, shard int) {
	t.Helper()
	if c, is := x.Config(shard); is || c.Epoch != 0 || len(c.Members) != 0 || c.Joining {
		t.Fatalf("Config of %d: %v, %v", shard, c, is)
	}
}

// lineOf is a line as the document's words say it.
func lineOf(shard int, c master.Config) string {
	joining := map[bool]string{false: "0", true: "1"}
	words := []string{strconv.Itoa(shard), strconv.Itoa(c.Epoch), joining[c.Joining]}
	for _, m := range c.Members {
		words = append(words, strconv.Itoa(m))
	}
	return strings.Join(words, " ")
}

// wantDo checks what a Do returns, and which lines the table has then.
func wantDo(t testing.TB, x *master.Table, o master.Order, want api.Errno, lines ...string) {
	t.Helper()
	if got := x.Do(o); got != want {
		t.Fatalf("Do of %v: %v, want %v", o, got, want)
	}
	wantTable(t, x, lines...)
}
