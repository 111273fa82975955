package master_test

import (
	"slices"
	"testing"

	"daisychain/api"
	"daisychain/master"
)

func TestP131New(t *testing.T) {
	wantTable(t, master.New())
	for _, shard := range []int{least, -1, 0, 9, 10, most} {
		wantNoConfig(t, master.New(), shard)
	}
	x := master.New()
	wantDo(t, x, initial(4, 1), api.OK, "4 1 0 1")
	wantTable(t, master.New())
}

func TestP131Config(t *testing.T) {
	x := of(t, "0 1 0 5", "3 12 1 7 0 99", "9 4 0 1 2 3 4 5 6 7")
	for shard, want := range map[int]master.Config{
		0: {Epoch: 1, Members: []int{5}},
		3: {Epoch: 12, Members: []int{7, 0, 99}, Joining: true},
		9: {Epoch: 4, Members: []int{1, 2, 3, 4, 5, 6, 7}},
	} {
		c, is := x.Config(shard)
		if !is || c.Epoch != want.Epoch || c.Joining != want.Joining || !slices.Equal(c.Members, want.Members) {
			t.Errorf("Config of %d: %v, %v", shard, c, is)
		}
	}
	for _, shard := range []int{least, -1, 1, 2, 4, 8, 10, 99, most} {
		wantNoConfig(t, x, shard)
	}
}

// What Config returns is new memory: neither a change of it nor an append to it reaches the table, or another result.
func TestP131ConfigIsNew(t *testing.T) {
	x := of(t, "3 4 0 1 2 3")
	wantDo(t, x, order(master.Drop, 3, 4, 3), api.OK, "3 5 0 1 2")
	a, _ := x.Config(3)
	b, _ := x.Config(3)
	a.Members[0] = 50
	_ = append(a.Members, 51)
	_ = append(a.Members[:0], 52, 53)
	_ = append(b.Members[:1], 54)
	wantTable(t, x, "3 5 0 1 2")
	if !slices.Equal(a.Members, []int{52, 53}) || !slices.Equal(b.Members, []int{1, 54}) {
		t.Error("another result:", a, b)
	}
}

// What happens to a table does not happen to what it returned.
func TestP131ConfigStays(t *testing.T) {
	x := of(t, "3 4 1 1 2 3")
	c, _ := x.Config(3)
	shards := x.Shards()
	wantDo(t, x, order(master.Full, 3, 4, 3), api.OK, "3 4 0 1 2 3")
	wantDo(t, x, order(master.Drop, 3, 4, 1), api.OK, "3 5 0 2 3")
	wantDo(t, x, order(master.Join, 3, 5, 8), api.OK, "3 6 1 2 3 8")
	wantDo(t, x, initial(1, 4), api.OK, "1 1 0 4", "3 6 1 2 3 8")
	if c.Epoch != 4 || !c.Joining || !slices.Equal(c.Members, []int{1, 2, 3}) {
		t.Error("Config:", c)
	}
	if !slices.Equal(shards, []int{3}) {
		t.Error("Shards:", shards)
	}
}

func TestP131Shards(t *testing.T) {
	x := master.New()
	var have []int
	for _, shard := range []int{5, 9, 0, 7, 1, 8, 2, 6, 4, 3} {
		if e := x.Do(initial(shard, shard)); e != api.OK {
			t.Fatal("Do:", e)
		}
		have = append(have, shard)
		want := slices.Sorted(slices.Values(have))
		got := x.Shards()
		if !slices.Equal(got, want) {
			t.Errorf("Shards: %v, want %v", got, want)
		}
		_ = append(got[:0], 77)
	}
	if got := x.Shards(); !slices.Equal(got, upTo(10)) {
		t.Error("Shards:", got)
	}
}

func TestP131Places(t *testing.T) {
	c := master.Config{Epoch: 3, Members: []int{7, 0, 99, 4}, Joining: true}
	for _, x := range []struct{ node, at, next, before int }{
		{7, 0, 0, -1}, {0, 1, 99, 7}, {99, 2, 4, 0}, {4, 3, -1, 99},
		{5, -1, -1, -1}, {1, -1, -1, -1}, {-1, -1, -1, -1}, {100, -1, -1, -1}, {least, -1, -1, -1}, {most, -1, -1, -1},
	} {
		wantPlace(t, c, x.node, x.at, x.next, x.before)
	}
	wantPlace(t, master.Config{Members: []int{6}}, 6, 0, -1, -1)
	wantPlace(t, master.Config{Members: []int{6}}, 0, -1, -1, -1)
	wantPlace(t, master.Config{}, 0, -1, -1, -1)
	wantPlace(t, master.Config{Members: []int{}}, -1, -1, -1, -1)
}

// A configuration that no table has does not make these panic; of several places it is the first one.
func TestP131PlacesOfAny(t *testing.T) {
	c := master.Config{Epoch: -4, Members: []int{3, least, 3, -1, most, 3}}
	wantPlace(t, c, 3, 0, least, -1)
	wantPlace(t, c, least, 1, 3, 3)
	wantPlace(t, c, -1, 3, most, 3)
	wantPlace(t, c, most, 4, 3, -1)
	long := master.Config{Members: upTo(1000)}
	wantPlace(t, long, 999, 999, -1, 998)
	wantPlace(t, long, 1000, -1, -1, -1)
}

// wantPlace checks where a node is, and who is beside it.
func wantPlace(t testing.TB, c master.Config, node, at, next, before int) {
	t.Helper()
	if got := c.At(node); got != at {
		t.Errorf("At of %d in %v: %d, want %d", node, c.Members, got, at)
	}
	if got := c.Next(node); got != next {
		t.Errorf("Next of %d in %v: %d, want %d", node, c.Members, got, next)
	}
	if got := c.Before(node); got != before {
		t.Errorf("Before of %d in %v: %d, want %d", node, c.Members, got, before)
	}
}
