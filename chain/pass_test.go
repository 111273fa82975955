package chain_test

import (
	"testing"

	"daisychain/chain"
	"daisychain/master"
)

func TestP143Order(t *testing.T) {
	r := live(t, 1, full(4, 1, 2, 3), "a", "b")
	wantOrder(t, r, "c", 3, pass(1, 2, 4, 2, 2, "c"))
	wantOrder(t, r, "", 4, pass(1, 2, 4, 3, 2, ""))
	wantOrder(t, r, "c", 5, pass(1, 2, 4, 4, 2, "c"))
	wantKeep(t, r, full(4, 1, 2, 3), "a", "b", "c", "", "c")
	wantIs(t, r, true, true, false, 0)
	wantFresh(t, r, 1)
}

// The only member commits what it orders.
func TestP143OrderAlone(t *testing.T) {
	for _, c := range []master.Config{full(4, 1), joining(4, 1)} {
		r := live(t, 1, c)
		wantOrder(t, r, "a", 1)
		wantIs(t, r, true, true, true, 1)
		wantOrder(t, r, "b", 2)
		wantIs(t, r, true, true, true, 2)
		wantFresh(t, r, 1, "a", "b")
		wantKeep(t, r, c, "a", "b")
	}
}

func TestP143OrderTurn(t *testing.T) {
	wantNoOrder(t, restarted(1, full(1, 1)))
	wantNoOrder(t, restarted(1, full(1, 1, 2), "a"))
	wantNoOrder(t, live(t, 2, full(1, 1, 2)))
	wantNoOrder(t, live(t, 2, full(1, 1, 2, 3)))
	wantNoOrder(t, live(t, 2, joining(1, 1, 2)))
	r := live(t, 1, full(1, 1))
	r.Adopt(full(2, 2))
	wantNoOrder(t, r)
	r.Adopt(full(3, 2, 1))
	wantNoOrder(t, r)
	r.Adopt(full(4, 1))
	wantOrder(t, r, "a", 1)
}

// An order of a member that became the head is passed on by it.
func TestP143OrderOfNext(t *testing.T) {
	r := live(t, 2, full(1, 1, 2, 3))
	r.Receive(pass(1, 2, 1, 0, 0, "a"))
	wantMsgs(t, r.Adopt(full(2, 2, 3)), pass(2, 3, 2, 0, 1, "a"))
	wantOrder(t, r, "b", 2, pass(2, 3, 2, 1, 1, "b"))
}

func TestP143Again(t *testing.T) {
	row := upTo(19)
	r := live(t, 2, full(6, 1, 2, 3), row...)
	for _, x := range []struct{ acked, end int }{{0, 8}, {1, 9}, {10, 18}, {11, 19}, {12, 19}, {18, 19}} {
		r.Receive(ack(3, 2, 6, x.acked))
		wantMsgs(t, r.Again(), passes(2, 3, 6, 19, row, x.acked, x.end)...)
		wantMsgs(t, r.Again(), passes(2, 3, 6, 19, row, x.acked, x.end)...)
	}
	r.Receive(ack(3, 2, 6, 19))
	wantMsgs(t, r.Again(), bare(2, 3, 6, 19, 19))
	wantMsgs(t, r.Again(), bare(2, 3, 6, 19, 19))
	r.Receive(pass(1, 2, 6, 19, 0, "d"))
	wantMsgs(t, r.Again(), pass(2, 3, 6, 19, 19, "d"))
}

// A row without commands has one Pass without a command.
func TestP143AgainOfEmpty(t *testing.T) {
	r := live(t, 1, full(6, 1, 2))
	wantMsgs(t, r.Again(), bare(1, 2, 6, 0, 0))
}

// What one result has does not change with the next one.
func TestP143AgainIsNew(t *testing.T) {
	r := live(t, 1, full(6, 1, 2), "a", "b")
	a := r.Again()
	a[0].Cmd = "x"
	_ = append(a, bare(1, 2, 3, 4, 5))
	wantMsgs(t, r.Again(), passes(1, 2, 6, 2, []string{"a", "b"}, 0, 2)...)
	wantKeep(t, r, full(6, 1, 2), "a", "b")
}

func TestP143AgainOfNone(t *testing.T) {
	wantMsgs(t, restarted(1, full(1, 1, 2), "a").Again())
	wantMsgs(t, live(t, 1, full(1, 1), "a").Again())
	wantMsgs(t, live(t, 2, full(1, 1, 2), "a").Again())
	r := live(t, 1, full(1, 1, 2), "a")
	r.Adopt(full(2, 2))
	wantMsgs(t, r.Again())
}

// Again changes nothing: neither what is committed nor what the next member is assumed to have.
func TestP143AgainChangesNothing(t *testing.T) {
	r := live(t, 1, full(1, 1, 2), upTo(12)...)
	r.Receive(ack(2, 1, 1, 3))
	before := seen(r)
	for range 5 {
		r.Again()
	}
	wantSeen(t, r, before)
}

// Each member has its own base in what it passes on, not that of the previous one.
func TestP143OwnBase(t *testing.T) {
	r := live(t, 2, full(3, 1, 2, 3), "a")
	wantMsgs(t, r.Receive(pass(1, 2, 3, 1, 7, "b")), pass(2, 3, 3, 1, 1, "b"), ack(2, 1, 3, 0))
	wantMsgs(t, r.Again(), passes(2, 3, 3, 1, []string{"a", "b"}, 0, 2)...)
}

// Example 1 of the chapter.
func TestExample1(t *testing.T) {
	head, tail := chain.New(1, chain.Keep{}), chain.New(2, chain.Keep{})
	wantMsgs(t, head.Adopt(full(1, 1, 2)), bare(1, 2, 1, 0, 0))
	wantMsgs(t, tail.Adopt(full(1, 1, 2)))
	k, l, _ := head.Order("a")
	wantMsgs(t, l, pass(1, 2, 1, 0, 0, "a"))
	l = tail.Receive(l[0])
	wantMsgs(t, l, ack(2, 1, 1, 1))
	wantMsgs(t, head.Receive(l[0]))
	if k != 1 || head.Commit() != 1 || tail.Commit() != 1 {
		t.Error("number and Commits:", k, head.Commit(), tail.Commit())
	}
	wantFresh(t, head, 1, "a")
	wantFresh(t, tail, 1, "a")
}
