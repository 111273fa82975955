package raft_test

import (
	"testing"

	"daisychain/api"
	"daisychain/entry"
	"daisychain/raft"
)

func TestP122Timeout(t *testing.T) {
	n := node(t, 4, three(), kept(5, logOf(3, 2, 2, 5), "x"))
	for term := 6; term < 10; term++ {
		wantMsgs(t, n.Timeout(),
			raft.Msg{Kind: raft.Ask, From: 4, To: 1, Term: term, Index: 5, LogTerm: 5},
			raft.Msg{Kind: raft.Ask, From: 4, To: 7, Term: term, Index: 5, LogTerm: 5})
		wantNode(t, n, raft.Stand, -1, 3)
		wantKeep(t, n, raft.Keep{Term: term, Voted: 4, Log: logOf(3, 2, 2, 5), Data: "x"})
	}
}

// Without entries, what is told of the last one is the Base, and its term.
func TestP122TimeoutWithoutEntries(t *testing.T) {
	n := node(t, 0, []int{0, 1, 2, 3, 99}, kept(0, logOf(7, 3), ""))
	l := n.Timeout()
	var want []raft.Msg
	for _, p := range []int{1, 2, 3, 99} {
		want = append(want, raft.Msg{Kind: raft.Ask, From: 0, To: p, Term: 1, Index: 7, LogTerm: 3})
	}
	wantMsgs(t, l, want...)
	n = node(t, 2, []int{1, 2, 3}, fresh())
	wantMsgs(t, n.Timeout(), raft.Msg{Kind: raft.Ask, From: 2, To: 1, Term: 1}, raft.Msg{Kind: raft.Ask, From: 2, To: 3, Term: 1})
}

// One that follows another one stands as well; the votes of an earlier term do not count any more.
func TestP122TimeoutOfOneThatFollows(t *testing.T) {
	n := node(t, 0, five(), fresh())
	n.Receive(raft.Msg{Kind: raft.Put, From: 2, To: 0, Term: 3, L: after(0, 3)})
	wantNode(t, n, raft.Follow, 2, 0)
	n.Timeout()
	wantNode(t, n, raft.Stand, -1, 0)
	wantKeep(t, n, raft.Keep{Term: 4, Voted: 0, Log: logOf(0, 0, 3)})
	n.Receive(raft.Msg{Kind: raft.Vote, From: 2, To: 0, Term: 4, Ok: true})
	n.Timeout()
	n.Receive(raft.Msg{Kind: raft.Vote, From: 5, To: 0, Term: 5, Ok: true})
	wantNode(t, n, raft.Stand, -1, 0)
	n.Receive(raft.Msg{Kind: raft.Vote, From: 2, To: 0, Term: 5, Ok: true})
	wantNode(t, n, raft.Lead, 0, 0)
}

// One that leads does nothing.
func TestP122TimeoutOfALeader(t *testing.T) {
	n := leader(t, three(), fresh())
	before := n.Keep()
	wantMsgs(t, n.Timeout())
	wantNode(t, n, raft.Lead, 1, 0)
	wantKeep(t, n, before)
	took(n, 4, 1, true)
	wantNode(t, n, raft.Lead, 1, 1)
}

// One that is alone leads, and commits what it appends at once.
func TestP122Alone(t *testing.T) {
	n := node(t, 9, []int{9}, kept(3, logOf(1, 1, 1, 2), "x"))
	wantMsgs(t, n.Timeout())
	wantNode(t, n, raft.Lead, 9, 4)
	want := logOf(1, 1, 1, 2)
	want.Add(entry.Entry{Term: 4})
	wantKeep(t, n, raft.Keep{Term: 4, Voted: 9, Log: want, Data: "x"})
	wantMsgs(t, n.Beat())
	k, l, err := n.Propose("y")
	if k != 5 || err != api.OK {
		t.Error("Propose:", k, err)
	}
	wantMsgs(t, l)
	wantNode(t, n, raft.Lead, 9, 5)
	wantTaken(t, n, 2, data(2, 1), data(3, 2), "", "y")
	wantMsgs(t, n.Timeout())
	wantNode(t, n, raft.Lead, 9, 5)
}

func TestP122Beat(t *testing.T) {
	n := node(t, 1, three(), fresh())
	wantMsgs(t, n.Beat())
	n.Timeout()
	wantMsgs(t, n.Beat())
	n.Receive(raft.Msg{Kind: raft.Vote, From: 4, To: 1, Term: 1, Ok: true})
	for range 3 {
		wantMsgs(t, n.Beat(),
			raft.Msg{Kind: raft.Put, From: 1, To: 4, Term: 1, L: []entry.Entry{{Term: 1}}},
			raft.Msg{Kind: raft.Put, From: 1, To: 7, Term: 1, L: []entry.Entry{{Term: 1}}})
	}
	took(n, 7, 1, true)
	wantMsgs(t, n.Beat(),
		raft.Msg{Kind: raft.Put, From: 1, To: 4, Term: 1, Commit: 1, L: []entry.Entry{{Term: 1}}},
		raft.Msg{Kind: raft.Put, From: 1, To: 7, Term: 1, Index: 1, LogTerm: 1, Commit: 1})
	n.Receive(raft.Msg{Kind: raft.Put, From: 4, To: 1, Term: 2})
	wantMsgs(t, n.Beat())
}

func TestP122Propose(t *testing.T) {
	n := leader(t, three(), kept(5, logOf(3, 2, 2, 5), "x"))
	k, l, err := n.Propose("a")
	if k != 7 || err != api.OK {
		t.Fatal("Propose:", k, err)
	}
	put := raft.Msg{Kind: raft.Put, From: 1, To: 4, Term: 6, Index: 5, LogTerm: 5, Commit: 3, L: []entry.Entry{{Term: 6}, {Term: 6, Data: "a"}}}
	other := put
	other.To = 7
	wantMsgs(t, l, put, other)
	wantNode(t, n, raft.Lead, 1, 3)
	if k, _, err := n.Propose(""); k != 8 || err != api.OK {
		t.Fatal("Propose:", k, err)
	}
	want := logOf(3, 2, 2, 5)
	for _, data := range []string{"", "a", ""} {
		want.Add(entry.Entry{Term: 6, Data: data})
	}
	wantKeep(t, n, raft.Keep{Term: 6, Voted: 1, Log: want, Data: "x"})
}

// Who does not lead proposes nothing.
func TestP122ProposeRefused(t *testing.T) {
	n := node(t, 4, three(), kept(5, logOf(3, 2, 2, 5), "x"))
	refused := func(what string) {
		t.Helper()
		before := n.Keep()
		role, leader, commit := n.Role(), n.Leader(), n.Commit()
		k, l, err := n.Propose("y")
		if k != 0 || l != nil || err != api.ErrTurn {
			t.Error(what, k, l, err)
		}
		wantKeep(t, n, before)
		wantNode(t, n, role, leader, commit)
	}
	refused("follows nobody")
	n.Receive(raft.Msg{Kind: raft.Put, From: 1, To: 4, Term: 5, Index: 5, LogTerm: 5})
	refused("follows")
	n.Timeout()
	refused("stands")
	n.Receive(raft.Msg{Kind: raft.Vote, From: 7, To: 4, Term: 6, Ok: true})
	if _, _, err := n.Propose("y"); err != api.OK {
		t.Error("leads:", err)
	}
	n.Receive(raft.Msg{Kind: raft.Took, From: 7, To: 4, Term: 7})
	refused("led")
}

func TestP122Compact(t *testing.T) {
	for k := 2; k <= 7; k++ {
		n := leader(t, []int{9}, kept(3, logOf(2, 1, 1, 2, 2, 3), "x"))
		wantTaken(t, n, 3, data(3, 1), data(4, 2), data(5, 2), data(6, 3), "")
		if err := n.Compact(k, "up to it"); err != api.OK {
			t.Fatalf("Compact up to %d: %v", k, err)
		}
		want := logOf(2, 1, 1, 2, 2, 3)
		want.Add(entry.Entry{Term: 4})
		want.Pass(k)
		wantKeep(t, n, raft.Keep{Term: 4, Voted: 9, Log: want, Data: "up to it"})
		wantNode(t, n, raft.Lead, 9, 7)
		wantTaken(t, n, 8)
		if k, _, err := n.Propose("y"); k != 8 || err != api.OK {
			t.Errorf("Propose: %d, %v", k, err)
		}
		wantTaken(t, n, 8, "y")
	}
}

// What was not Taken can't be discarded, even if it is committed; what was discarded neither.
func TestP122CompactRefused(t *testing.T) {
	n := leader(t, three(), kept(3, logOf(2, 1, 1, 2, 2, 3), "x"))
	refused := func(l ...int) {
		t.Helper()
		before := n.Keep()
		for _, k := range l {
			if err := n.Compact(k, "y"); err != api.ErrArg {
				t.Fatalf("Compact up to %d: %v", k, err)
			}
			wantKeep(t, n, before)
		}
	}
	refused(least, -1, 0, 1, 3, 4, 7, 8, most)
	took(n, 4, 7, true)
	wantNode(t, n, raft.Lead, 1, 7)
	refused(least, -1, 0, 1, 3, 4, 7, 8, most)
	n.Taken()
	n.Propose("z")
	refused(least, -1, 0, 1, 8, 9, most)
	if err := n.Compact(5, "y"); err != api.OK {
		t.Fatal(err)
	}
	refused(least, 2, 3, 4, 8, 9, most)
}

// At Base nothing more is discarded, but the snapshot is another one.
func TestP122CompactAtBase(t *testing.T) {
	n := node(t, 1, three(), kept(3, logOf(2, 1, 1), "x"))
	if err := n.Compact(2, "y"); err != api.OK {
		t.Fatal(err)
	}
	wantKeep(t, n, kept(3, logOf(2, 1, 1), "y"))
	n = node(t, 1, three(), fresh())
	if err := n.Compact(0, ""); err != api.OK {
		t.Fatal(err)
	}
}

// A snapshot that came counts as Taken, so that it can be discarded.
func TestP122CompactAfterWhole(t *testing.T) {
	n := node(t, 1, three(), kept(3, logOf(2, 1, 1, 2, 3, 3), "x"))
	n.Receive(raft.Msg{Kind: raft.Whole, From: 4, To: 1, Term: 3, Index: 4, LogTerm: 2, Data: "up to 4"})
	for _, k := range []int{3, 5, 6} {
		if err := n.Compact(k, "y"); err != api.ErrArg {
			t.Errorf("Compact up to %d: %v", k, err)
		}
	}
	if err := n.Compact(4, "y"); err != api.OK {
		t.Error(err)
	}
	wantKeep(t, n, kept(3, logOf(4, 2, 3, 3), "y"))
}
