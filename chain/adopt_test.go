package chain_test

import (
	"testing"

	"daisychain/chain"
	"daisychain/master"
)

func TestP142Less(t *testing.T) {
	r := live(t, 1, full(5, 1, 2), "a")
	r.Receive(ack(2, 1, 5, 1))
	before := seen(r)
	for _, c := range []master.Config{full(4, 1), full(4, 2), joining(4, 2, 1), full(4, 1, 2), full(0), full(-1, 1), full(least, 1), {}} {
		wantMsgs(t, r.Adopt(c))
		wantSeen(t, r, before)
	}
	r = restarted(1, full(5, 1), "a")
	wantMsgs(t, r.Adopt(full(4, 1)))
	wantIs(t, r, false, false, false, 0)
	wantKeep(t, r, full(5, 1), "a")
	r = restarted(1, master.Config{})
	wantMsgs(t, r.Adopt(full(-1, 1)))
	wantIs(t, r, false, false, false, 0)
	wantKeep(t, r, master.Config{})
}

// In the epoch that it keeps it becomes live, if it is a member.
func TestP142EqualLive(t *testing.T) {
	for _, x := range []struct {
		id         int
		members    []int
		live       bool
		head, tail bool
		commit     int
	}{
		{1, []int{1}, true, true, true, 2},
		{1, []int{1, 2}, true, true, false, 0},
		{2, []int{1, 2}, true, false, true, 2},
		{2, []int{1, 2, 3}, true, false, false, 0},
		{4, []int{1, 2, 3}, false, false, false, 0},
		{4, nil, false, false, false, 0},
	} {
		r := restarted(x.id, full(3, x.members...), "a", "b")
		r.Adopt(full(3, x.members...))
		wantIs(t, r, x.live, x.head, x.tail, x.commit)
		wantKeep(t, r, full(3, x.members...), "a", "b")
	}
}

// Joining becomes the configuration's if that is false, whether the replica is a member, and live, or not.
func TestP142EqualJoining(t *testing.T) {
	for _, id := range []int{1, 2, 3} {
		for _, was := range []bool{false, true} {
			r := restarted(id, joining(3, 1, 2), "a")
			if was {
				r.Adopt(joining(3, 1, 2))
			}
			r.Adopt(joining(3, 1, 2))
			wantKeep(t, r, joining(3, 1, 2), "a")
			r.Adopt(full(3, 1, 2))
			wantKeep(t, r, full(3, 1, 2), "a")
			r.Adopt(joining(3, 1, 2))
			wantKeep(t, r, full(3, 1, 2), "a")
		}
	}
}

// A new member that restarts, or hears of its configuration again, keeps its row.
func TestP142EqualKeeps(t *testing.T) {
	r := live(t, 3, joining(3, 1, 3), "x")
	wantKeep(t, r, joining(3, 1, 3))
	r.Receive(pass(1, 3, 3, 0, 0, "a"))
	r.Adopt(joining(3, 1, 3))
	wantKeep(t, r, joining(3, 1, 3), "a")
	wantIs(t, r, true, false, true, 1)
	r = chain.New(3, r.Keep())
	r.Adopt(joining(3, 1, 3))
	wantKeep(t, r, joining(3, 1, 3), "a")
	wantIs(t, r, true, false, true, 1)
}

// Of a configuration of its own epoch, the members are its own ones.
func TestP142EqualMembers(t *testing.T) {
	r := live(t, 1, full(3, 1, 2))
	r.Adopt(full(3, 2, 1))
	wantKeep(t, r, full(3, 1, 2))
	wantIs(t, r, true, true, false, 0)
	r.Adopt(full(3, 7))
	wantIs(t, r, true, true, false, 0)
	r = restarted(1, full(3, 7))
	r.Adopt(full(3, 1))
	wantIs(t, r, false, false, false, 0)
	wantKeep(t, r, full(3, 7))
}

func TestP142Greater(t *testing.T) {
	r := restarted(2, master.Config{}, "a", "b")
	wantMsgs(t, r.Adopt(full(1, 1, 2, 3)), pass(2, 3, 1, 0, 2, "a"), pass(2, 3, 1, 1, 2, "b"))
	wantIs(t, r, true, false, false, 0)
	wantKeep(t, r, full(1, 1, 2, 3), "a", "b")
	wantMsgs(t, r.Adopt(full(2, 1, 3)))
	wantIs(t, r, false, false, false, 0)
	wantKeep(t, r, full(2, 1, 3), "a", "b")
	wantMsgs(t, r.Adopt(full(7, 2, 3)), pass(2, 3, 7, 0, 2, "a"), pass(2, 3, 7, 1, 2, "b"))
	wantIs(t, r, true, true, false, 0)
	wantMsgs(t, r.Adopt(full(8, 3, 2)))
	wantIs(t, r, true, false, true, 2)
	wantMsgs(t, r.Adopt(full(9)))
	wantIs(t, r, false, false, false, 2)
	wantMsgs(t, r.Adopt(full(most, 2)))
	wantIs(t, r, true, true, true, 2)
	wantKeep(t, r, full(most, 2), "a", "b")
}

// A configuration that was adopted may be changed then.
func TestP142ConfigIsCopied(t *testing.T) {
	c := full(1, 1, 2)
	r := live(t, 1, c)
	c.Members[0] = 5
	wantKeep(t, r, full(1, 1, 2))
	c = joining(2, 1, 3)
	r.Adopt(c)
	c.Members[1] = 1
	wantKeep(t, r, joining(2, 1, 3))
	wantIs(t, r, true, true, false, 0)
}

// The row is discarded exactly if it is the last member, and new.
func TestP142Discard(t *testing.T) {
	for _, x := range []struct {
		c       master.Config
		commit  int
		discard bool
	}{
		{joining(2, 1, 5), 0, true}, {joining(2, 5), 0, true}, {joining(3, 1, 2, 3, 5), 0, true},
		{full(2, 1, 5), 3, false}, {full(2, 5), 3, false},
		{joining(2, 1, 5, 2), 2, false}, {joining(2, 5, 2), 2, false}, {joining(2, 1, 2), 2, false}, {joining(2), 2, false},
	} {
		r := live(t, 5, full(1, 5, 6), "a", "b", "c")
		r.Receive(ack(6, 5, 1, 2))
		row := []string{"a", "b", "c"}
		if x.discard {
			row = nil
		}
		r.Adopt(x.c)
		wantKeep(t, r, x.c, row...)
		if got := r.Commit(); got != x.commit {
			t.Errorf("Commit in %v: %d, want %d", x.c, got, x.commit)
		}
		if x.discard {
			wantFresh(t, r, 1)
		}
	}
}

// One that restarts as a new member discards its row too, if the epoch is a later one than that it keeps.
func TestP142DiscardOfKept(t *testing.T) {
	r := restarted(5, joining(2, 1, 5), "a", "b")
	wantMsgs(t, r.Adopt(joining(3, 2, 5)))
	wantKeep(t, r, joining(3, 2, 5))
	wantIs(t, r, true, false, true, 0)
}

// Whoever becomes the tail commits its whole row.
func TestP142TailCommits(t *testing.T) {
	r := live(t, 2, full(1, 1, 2, 3), "a")
	r.Receive(pass(1, 2, 1, 1, 0, "b"))
	wantIs(t, r, true, false, false, 0)
	wantMsgs(t, r.Adopt(full(2, 1, 2)))
	wantIs(t, r, true, false, true, 2)
	wantFresh(t, r, 1, "a", "b")
}

// Commit does not shrink where the row is not discarded.
func TestP142CommitStays(t *testing.T) {
	r := live(t, 2, full(1, 1, 2), "a", "b")
	r.Adopt(joining(2, 1, 2, 3))
	wantIs(t, r, true, false, false, 2)
	r.Adopt(full(3, 1, 3))
	wantIs(t, r, false, false, false, 2)
	r.Adopt(full(4, 2, 3))
	wantIs(t, r, true, true, false, 2)
	wantFresh(t, r, 1, "a", "b")
}

// What the next member acknowledged is reset, and the base is the length of the row, when it was not live in the epoch.
func TestP142Reset(t *testing.T) {
	r := live(t, 1, full(1, 1, 2))
	row := upTo(3)
	for i, cmd := range row {
		wantOrder(t, r, cmd, i+1, pass(1, 2, 1, i, 0, cmd))
	}
	r.Receive(ack(2, 1, 1, 2))
	wantMsgs(t, r.Again(), pass(1, 2, 1, 2, 0, "c3"))
	wantMsgs(t, r.Adopt(full(2, 1, 2)), passes(1, 2, 2, 3, row, 0, 3)...)
	r.Receive(ack(2, 1, 2, 3))
	wantMsgs(t, r.Again(), bare(1, 2, 2, 3, 3))
	wantOrder(t, r, "d", 4, pass(1, 2, 2, 3, 3, "d"))
	wantMsgs(t, r.Adopt(full(2, 1, 2)), pass(1, 2, 2, 3, 3, "d"))
	wantMsgs(t, r.Adopt(joining(2, 1, 2)), pass(1, 2, 2, 3, 3, "d"))
	r.Adopt(full(3, 2))
	wantMsgs(t, r.Adopt(full(4, 1, 2)), passes(1, 2, 4, 4, r.Row(), 0, 4)...)
	r = chain.New(1, r.Keep())
	wantMsgs(t, r.Adopt(full(4, 1, 2)), passes(1, 2, 4, 4, r.Row(), 0, 4)...)
	wantOrder(t, r, "e", 5, pass(1, 2, 4, 4, 4, "e"))
	r = chain.New(1, r.Keep())
	wantMsgs(t, r.Adopt(full(4, 1, 2)), passes(1, 2, 4, 5, r.Row(), 0, 5)...)
}

// The base of a new member is 0, since its row is discarded first.
func TestP142BaseOfNew(t *testing.T) {
	r := live(t, 2, joining(1, 1, 2), "x", "y")
	r.Receive(pass(1, 2, 1, 0, 0, "a"))
	wantMsgs(t, r.Adopt(joining(2, 1, 2, 3)), pass(2, 3, 2, 0, 1, "a"))
	r = live(t, 2, joining(1, 1, 2), "x", "y")
	wantMsgs(t, r.Adopt(joining(2, 2, 3)), bare(2, 3, 2, 0, 0))
}

// It sends what Again returns: at most 8 commands.
func TestP142SendsAgain(t *testing.T) {
	row := upTo(20)
	r := restarted(1, master.Config{}, row...)
	wantMsgs(t, r.Adopt(full(1, 1, 2)), passes(1, 2, 1, 20, row, 0, 8)...)
	r.Receive(ack(2, 1, 1, 5))
	wantMsgs(t, r.Adopt(full(1, 1, 2)), passes(1, 2, 1, 20, row, 5, 13)...)
	wantMsgs(t, r.Adopt(full(2, 1)))
	wantMsgs(t, r.Adopt(full(3, 3, 4)))
}
