package chain_test

import (
	"testing"

	"daisychain/chain"
	"daisychain/master"
)

func TestP141New(t *testing.T) {
	r := chain.New(1, chain.Keep{})
	wantIs(t, r, false, false, false, 0)
	wantKeep(t, r, master.Config{})
	wantFresh(t, r, 1)
	if r.Complete() {
		t.Error("Complete")
	}
	wantMsgs(t, r.Again())
	wantNoOrder(t, r)
}

// A replica that restarts has all it keeps, but is not live, and does not know what is committed.
func TestP141NewOfKeep(t *testing.T) {
	for _, c := range []master.Config{full(3, 1), full(3, 1, 2), full(3, 2, 1), joining(3, 2, 1), full(3, 2, 5), full(-3, 1), joining(0)} {
		r := restarted(1, c, "a", "b")
		wantIs(t, r, false, false, false, 0)
		wantKeep(t, r, c, "a", "b")
		wantFresh(t, r, 1)
		wantMsgs(t, r.Again())
		wantNoOrder(t, r)
		wantIgnored(t, r, pass(2, 1, c.Epoch, 2, 0, "c"))
		wantIgnored(t, r, ack(2, 1, c.Epoch, 1))
	}
}

// What New was given may be changed then, and what Keep, Row and Fresh return too.
func TestP141KeepIsNew(t *testing.T) {
	k := chain.Keep{Config: full(3, 1, 2), Row: append(make([]string, 0, 9), "a", "b")}
	r := chain.New(1, k)
	k.Config.Members[0], k.Row[0] = 9, "x"
	_ = append(k.Row, "y")
	wantKeep(t, r, full(3, 1, 2), "a", "b")
	for range 3 {
		k = r.Keep()
		k.Config.Members[1], k.Row[1] = 9, "x"
		_ = append(k.Row, "y")
		_ = append(k.Config.Members, 7)
		row := r.Row()
		row[0] = "z"
		_ = append(row, "w")
		wantKeep(t, r, full(3, 1, 2), "a", "b")
	}
	r.Adopt(full(3, 1, 2))
	wantOrder(t, r, "c", 3, pass(1, 2, 3, 2, 2, "c"))
	if len(k.Row) != 2 || k.Row[0] != "a" || k.Row[1] != "x" {
		t.Error("what Keep returned:", k.Row)
	}
}

// Neither an append to one result nor one to the row reaches another result.
func TestP141RowIsNew(t *testing.T) {
	r := live(t, 1, full(1, 1))
	var rows [][]string
	for i, cmd := range upTo(40) {
		wantOrder(t, r, cmd, i+1)
		rows = append(rows, r.Row(), r.Keep().Row)
		_, l := r.Fresh()
		_ = append(l, "f")
	}
	for _, row := range rows {
		_ = append(row, "x")
		_ = append(row[:len(row)-1], "y")
	}
	wantKeep(t, r, full(1, 1), upTo(40)...)
	for i, row := range rows {
		if len(row) != i/2+1 || row[0] != "c1" && i > 1 {
			t.Fatalf("row %d: %q", i, row)
		}
	}
}

func TestP141HeadAndTail(t *testing.T) {
	for _, x := range []struct {
		id         int
		c          master.Config
		head, tail bool
	}{
		{1, full(1, 1), true, true},
		{1, full(1, 1, 2), true, false},
		{2, full(1, 1, 2), false, true},
		{2, joining(1, 1, 2), false, true},
		{2, full(1, 1, 2, 3), false, false},
		{3, full(1, 1, 2, 3), false, true},
		{0, full(1, 7, 0, 99, 4), false, false},
		{99, full(1, 99, 0), true, false},
		{0, full(1, 99, 0), false, true},
		{4, full(5, 1, 2, 3, 4, 5, 6, 7), false, false},
	} {
		r := restarted(x.id, x.c)
		wantIs(t, r, false, false, false, 0)
		r.Adopt(x.c)
		wantIs(t, r, true, x.head, x.tail, 0)
		r.Adopt(full(9, 50))
		wantIs(t, r, false, false, false, 0)
	}
}

func TestP141Fresh(t *testing.T) {
	r := live(t, 1, full(1, 1, 2))
	for i, cmd := range upTo(6) {
		wantOrder(t, r, cmd, i+1, pass(1, 2, 1, i, 0, cmd))
	}
	wantFresh(t, r, 1)
	r.Receive(ack(2, 1, 1, 2))
	wantFresh(t, r, 1, "c1", "c2")
	wantFresh(t, r, 3)
	r.Receive(ack(2, 1, 1, 3))
	r.Receive(ack(2, 1, 1, 5))
	wantFresh(t, r, 3, "c3", "c4", "c5")
	wantFresh(t, r, 6)
	r.Receive(ack(2, 1, 1, 4))
	wantFresh(t, r, 6)
	r.Adopt(full(2, 1))
	wantFresh(t, r, 6, "c6")
	wantOrder(t, r, "d", 7)
	wantFresh(t, r, 7, "d")
	wantFresh(t, r, 8)
}

// What Fresh returns is new memory.
func TestP141FreshIsNew(t *testing.T) {
	r := live(t, 1, full(1, 1), "a", "b")
	_, l := r.Fresh()
	l[0] = "x"
	_ = append(l, "y")
	wantOrder(t, r, "c", 3)
	wantKeep(t, r, full(1, 1), "a", "b", "c")
	wantFresh(t, r, 3, "c")
}

// After a restart, and after its row was discarded, it is all.
func TestP141FreshOfAll(t *testing.T) {
	r := live(t, 1, full(1, 1), "a", "b")
	wantFresh(t, r, 1, "a", "b")
	r = chain.New(1, r.Keep())
	wantFresh(t, r, 1)
	r.Adopt(full(1, 1))
	wantFresh(t, r, 1, "a", "b")
	r.Adopt(joining(2, 2, 1))
	wantFresh(t, r, 1)
	r.Receive(pass(2, 1, 2, 0, 0, "c"))
	wantFresh(t, r, 1, "c")
	r.Receive(pass(2, 1, 2, 1, 0, "d"))
	r.Adopt(joining(3, 3, 1))
	wantFresh(t, r, 1)
	r.Receive(pass(3, 1, 3, 0, 0, "e"))
	wantFresh(t, r, 1, "e")
	wantFresh(t, r, 2)
	r.Adopt(full(4, 2, 1))
	wantFresh(t, r, 2)
}
