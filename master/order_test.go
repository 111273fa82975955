package master_test

import (
	"testing"

	"daisychain/api"
	"daisychain/master"
)

// wantRefused checks that a table with these lines returns an error for an order, and stays as it is.
func wantRefused(t testing.TB, o master.Order, want api.Errno, lines ...string) {
	t.Helper()
	wantDo(t, of(t, lines...), o, want, lines...)
}

// wantDone checks which line a shard's line becomes by an order, while the lines of others stay.
func wantDone(t testing.TB, line string, o master.Order, want string) {
	t.Helper()
	wantDo(t, of(t, line), o, api.OK, want)
	wantDo(t, of(t, "0 8 1 1 2", line, "9 2 0 3"), o, api.OK, "0 8 1 1 2", want, "9 2 0 3")
}

func TestExample1(t *testing.T) {
	x := master.New()
	wantDo(t, x, initial(0, 1, 2, 3), api.OK, "0 1 0 1 2 3")
	wantDo(t, x, order(master.Drop, 0, 1, 2), api.OK, "0 2 0 1 3")
	wantDo(t, x, order(master.Join, 0, 2, 4), api.OK, "0 3 1 1 3 4")
}

func TestP132Kinds(t *testing.T) {
	if master.Init != 0 || master.Drop != 1 || master.Join != 2 || master.Full != 3 {
		t.Error("kinds:", master.Init, master.Drop, master.Join, master.Full)
	}
	for _, kind := range []int{least, -1, 4, 5, 99, most} {
		for _, shard := range []int{-1, 0, 5, 9, 10} {
			o := master.Order{Kind: kind, Shard: shard, Epoch: 3, Node: 1, Members: []int{1, 2}}
			wantRefused(t, o, api.ErrArg)
			wantRefused(t, o, api.ErrArg, "5 3 1 1 2")
		}
	}
}

func TestP132Shards(t *testing.T) {
	for kind := master.Init; kind <= master.Full; kind++ {
		for _, shard := range []int{least, -1, 10, 11, most} {
			o := master.Order{Kind: kind, Shard: shard, Epoch: 3, Node: 2, Members: []int{1, 2}}
			wantRefused(t, o, api.ErrArg)
			wantRefused(t, o, api.ErrArg, "0 3 1 1 2", "9 3 1 1 2")
		}
	}
	for shard := range 10 {
		line := string(rune('0'+shard)) + " 1 0 1 2"
		wantDo(t, master.New(), initial(shard, 1, 2), api.OK, line)
	}
}

func TestP132Init(t *testing.T) {
	for line, members := range map[string][]int{
		"4 1 0 0":                    {0},
		"4 1 0 99":                   {99},
		"4 1 0 3 1 2":                {3, 1, 2},
		"4 1 0 99 0 50":              {99, 0, 50},
		"4 1 0 1 2 3 4 5 6 7":        {1, 2, 3, 4, 5, 6, 7},
		"4 1 0 99 98 97 96 95 94 93": {99, 98, 97, 96, 95, 94, 93},
	} {
		wantDo(t, master.New(), initial(4, members...), api.OK, line)
		wantDo(t, of(t, "0 8 1 1 2", "9 2 0 3"), initial(4, members...), api.OK, "0 8 1 1 2", line, "9 2 0 3")
	}
}

// The epoch and the node of an Init are not examined.
func TestP132InitOfAnyEpoch(t *testing.T) {
	for _, n := range []int{least, -1, 0, 1, 2, 100, most} {
		o := master.Order{Kind: master.Init, Shard: 4, Epoch: n, Node: n, Members: []int{1, 2}}
		wantDo(t, master.New(), o, api.OK, "4 1 0 1 2")
	}
}

func TestP132InitWrong(t *testing.T) {
	for _, members := range [][]int{
		nil, {}, {-1}, {100}, {least}, {most}, {1, 2, 1}, {1, 1}, {0, 0}, {1, 2, 100}, {1, -1, 2}, {-1, 1},
		{1, 2, 3, 4, 5, 6, 7, 8}, {1, 2, 3, 4, 5, 6, 7, 7}, {1, 2, 3, 4, 5, 6, 6}, {7, 1, 2, 3, 4, 5, 7}, upTo(100), make([]int, 1000),
	} {
		wantRefused(t, initial(4, members...), api.ErrArg)
		wantRefused(t, initial(4, members...), api.ErrArg, "0 8 1 1 2", "9 2 0 3")
		wantRefused(t, initial(4, members...), api.ErrTwice, "4 8 1 1 2")
	}
	wantRefused(t, initial(4, 1, 2), api.ErrTwice, "4 1 0 1 2")
	wantRefused(t, initial(4, 3), api.ErrTwice, "0 8 1 1 2", "4 7 1 1 2", "9 2 0 3")
}

// A table does not keep the list that an Init has, nor one that shares memory with it.
func TestP132InitIsNew(t *testing.T) {
	x := master.New()
	members := append(make([]int, 0, 8), 1, 2, 3)
	if e := x.Do(initial(4, members...)); e != api.OK {
		t.Fatal("Do:", e)
	}
	if e := x.Do(initial(5, members...)); e != api.OK {
		t.Fatal("Do:", e)
	}
	members[0] = 50
	wantTable(t, x, "4 1 0 1 2 3", "5 1 0 1 2 3")
	members[0] = 1
	wantDo(t, x, order(master.Drop, 4, 1, 1), api.OK, "4 2 0 2 3", "5 1 0 1 2 3")
	wantDo(t, x, order(master.Join, 4, 2, 8), api.OK, "4 3 1 2 3 8", "5 1 0 1 2 3")
	if members[0] != 1 || members[1] != 2 || members[2] != 3 || members[:4][3] != 0 {
		t.Error("the members of the order:", members[:4])
	}
}

// For all but an Init: first whether the shard has a configuration, then whether it is of that epoch, then the rest.
func TestP132NameAndEpoch(t *testing.T) {
	for kind := master.Drop; kind <= master.Full; kind++ {
		for _, node := range []int{-1, 0, 1, 2, 50, 100} {
			for _, epoch := range []int{least, -1, 0, 1, 6, 7, 8, most} {
				wantRefused(t, order(kind, 4, epoch, node), api.ErrName)
				wantRefused(t, order(kind, 4, epoch, node), api.ErrName, "3 7 1 1 2", "5 7 1 1 2")
				if epoch != 7 {
					wantRefused(t, order(kind, 4, epoch, node), api.ErrOld, "3 6 1 1 2", "4 7 1 1 2", "5 8 1 1 2")
				}
			}
		}
	}
}

// The members of any order but an Init are not examined.
func TestP132OthersOfAnyMembers(t *testing.T) {
	for _, members := range [][]int{nil, {}, {1, 1}, {-1}, {100}, upTo(100)} {
		o := master.Order{Kind: master.Drop, Shard: 4, Epoch: 7, Node: 1, Members: members}
		wantDone(t, "4 7 0 1 2", o, "4 8 0 2")
		o.Kind, o.Node = master.Join, 3
		wantDone(t, "4 7 0 1 2", o, "4 8 1 1 2 3")
		o.Kind, o.Node = master.Full, 2
		wantDone(t, "4 7 1 1 2", o, "4 7 0 1 2")
	}
}

func TestP132Drop(t *testing.T) {
	for _, x := range []struct {
		line string
		node int
		want string
	}{
		{"4 7 0 1 2 3", 1, "4 8 0 2 3"},
		{"4 7 0 1 2 3", 2, "4 8 0 1 3"},
		{"4 7 0 1 2 3", 3, "4 8 0 1 2"},
		{"4 7 0 1 2", 1, "4 8 0 2"},
		{"4 7 0 1 2", 2, "4 8 0 1"},
		{"4 7 1 1 2 3", 1, "4 8 1 2 3"},
		{"4 7 1 1 2 3", 2, "4 8 1 1 3"},
		{"4 7 1 1 2 3", 3, "4 8 0 1 2"},
		{"4 7 1 1 2", 2, "4 8 0 1"},
		{"4 7 0 99 0", 0, "4 8 0 99"},
		{"4 1 1 7 6 5 4 3 2 1", 4, "4 2 1 7 6 5 3 2 1"},
		{"4 1 1 7 6 5 4 3 2 1", 1, "4 2 0 7 6 5 4 3 2"},
		{"4 999999999999 0 7 6", 7, "4 1000000000000 0 6"},
		{"4 9223372036854775806 0 7 6", 7, "4 9223372036854775807 0 6"},
	} {
		epoch := epochOf(t, x.line)
		wantDone(t, x.line, order(master.Drop, 4, epoch, x.node), x.want)
	}
}

// epochOf is the epoch of shard 4, in its line.
func epochOf(t testing.TB, line string) int {
	t.Helper()
	c, is := of(t, line).Config(4)
	if !is {
		t.Fatalf("no shard 4: %q", line)
	}
	return c.Epoch
}

func TestP132DropWrong(t *testing.T) {
	for _, node := range []int{least, -1, 0, 4, 99, 100, most} {
		wantRefused(t, order(master.Drop, 4, 7, node), api.ErrName, "4 7 0 1 2 3")
		wantRefused(t, order(master.Drop, 4, 7, node), api.ErrName, "4 7 1 1 2")
		wantRefused(t, order(master.Drop, 4, 7, node), api.ErrName, "4 7 0 1")
	}
	wantRefused(t, order(master.Drop, 4, 7, 1), api.ErrState, "4 7 0 1")
	wantRefused(t, order(master.Drop, 4, 7, 0), api.ErrState, "4 7 0 0")
	wantRefused(t, order(master.Drop, 4, 7, 1), api.ErrState, "4 7 1 1 2")
	wantRefused(t, order(master.Drop, 4, 7, 0), api.ErrState, "0 7 0 0 1", "4 7 1 0 99", "9 7 0 0 1")
}

func TestP132Join(t *testing.T) {
	for _, x := range []struct {
		line string
		node int
		want string
	}{
		{"4 7 0 1 2 3", 4, "4 8 1 1 2 3 4"},
		{"4 7 0 1 2 3", 0, "4 8 1 1 2 3 0"},
		{"4 7 0 1", 99, "4 8 1 1 99"},
		{"4 7 0 1 2 3 4 5 6", 50, "4 8 1 1 2 3 4 5 6 50"},
		{"4 9223372036854775806 0 6", 7, "4 9223372036854775807 1 6 7"},
	} {
		epoch := epochOf(t, x.line)
		wantDone(t, x.line, order(master.Join, 4, epoch, x.node), x.want)
	}
}

func TestP132JoinWrong(t *testing.T) {
	for _, line := range []string{"4 7 0 1 2", "4 7 1 1 2", "4 7 0 1 2 3 4 5 6 7", "4 7 1 1 2 3 4 5 6 7"} {
		for _, node := range []int{least, -1, 100, 101, most} {
			wantRefused(t, order(master.Join, 4, 7, node), api.ErrArg, line)
		}
		for _, node := range []int{1, 2} {
			wantRefused(t, order(master.Join, 4, 7, node), api.ErrTwice, line)
		}
	}
	for _, line := range []string{"4 7 1 1 2", "4 7 1 1 2 3 4 5 6", "4 7 0 1 2 3 4 5 6 7", "4 7 1 1 2 3 4 5 6 7"} {
		for _, node := range []int{0, 8, 99} {
			wantRefused(t, order(master.Join, 4, 7, node), api.ErrState, line)
		}
	}
}

func TestP132Full(t *testing.T) {
	wantDone(t, "4 7 1 1 2 3", order(master.Full, 4, 7, 3), "4 7 0 1 2 3")
	wantDone(t, "4 7 1 1 0", order(master.Full, 4, 7, 0), "4 7 0 1 0")
	wantDone(t, "4 1 1 1 2 3 4 5 6 99", order(master.Full, 4, 1, 99), "4 1 0 1 2 3 4 5 6 99")
	wantDone(t, "4 9223372036854775807 1 6 7", order(master.Full, 4, most, 7), "4 9223372036854775807 0 6 7")
}

func TestP132FullWrong(t *testing.T) {
	for _, node := range []int{least, -1, 0, 1, 2, 4, 99, 100, most} {
		wantRefused(t, order(master.Full, 4, 7, node), api.ErrState, "4 7 1 1 2 3")
	}
	for _, node := range []int{least, -1, 0, 1, 2, 3, 100, most} {
		wantRefused(t, order(master.Full, 4, 7, node), api.ErrState, "4 7 0 1 2 3")
		wantRefused(t, order(master.Full, 4, 7, node), api.ErrState, "4 7 0 3")
	}
	x := of(t, "4 7 1 1 2")
	wantDo(t, x, order(master.Full, 4, 7, 2), api.OK, "4 7 0 1 2")
	wantDo(t, x, order(master.Full, 4, 7, 2), api.ErrState, "4 7 0 1 2")
}

// A way through all kinds of orders, from one shard to the next.
func TestP132Way(t *testing.T) {
	x := master.New()
	wantDo(t, x, initial(2, 10, 20), api.OK, "2 1 0 10 20")
	wantDo(t, x, order(master.Join, 2, 1, 30), api.OK, "2 2 1 10 20 30")
	wantDo(t, x, order(master.Join, 2, 2, 40), api.ErrState, "2 2 1 10 20 30")
	wantDo(t, x, order(master.Drop, 2, 2, 10), api.OK, "2 3 1 20 30")
	wantDo(t, x, order(master.Full, 2, 2, 30), api.ErrOld, "2 3 1 20 30")
	wantDo(t, x, order(master.Drop, 2, 3, 20), api.ErrState, "2 3 1 20 30")
	wantDo(t, x, order(master.Full, 2, 3, 30), api.OK, "2 3 0 20 30")
	wantDo(t, x, order(master.Drop, 2, 3, 20), api.OK, "2 4 0 30")
	wantDo(t, x, order(master.Join, 2, 4, 10), api.OK, "2 5 1 30 10")
	wantDo(t, x, order(master.Drop, 2, 5, 10), api.OK, "2 6 0 30")
	wantDo(t, x, initial(1, 30), api.OK, "1 1 0 30", "2 6 0 30")
	wantDo(t, x, initial(2, 30), api.ErrTwice, "1 1 0 30", "2 6 0 30")
	wantDo(t, x, order(master.Drop, 2, 6, 30), api.ErrState, "1 1 0 30", "2 6 0 30")
}
