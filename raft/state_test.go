package raft_test

import (
	"slices"
	"testing"

	"daisychain/api"
	"daisychain/entry"
	"daisychain/raft"
)

func TestP121New(t *testing.T) {
	for _, peers := range [][]int{{0}, {99}, {7}, {0, 1, 2}, {1, 4, 7}, {0, 50, 99}, {97, 98, 99}, {0, 1, 2, 3, 4}, five()} {
		for _, id := range peers {
			k := raft.Keep{Term: 6, Voted: 4, Log: logOf(3, 2, 2, 5), Data: "up to 3"}
			n := node(t, id, peers, k)
			if n.Id() != id {
				t.Errorf("Id of %d among %v: %d", id, peers, n.Id())
			}
			wantNode(t, n, raft.Follow, -1, 3)
			wantKeep(t, n, k)
			wantTaken(t, n, 4)
			wantMsgs(t, n.Beat())
		}
	}
}

func TestP121NewRefused(t *testing.T) {
	for _, x := range []struct {
		what  string
		id    int
		peers []int
		k     raft.Keep
	}{
		{"no peers", 0, nil, fresh()},
		{"none, but not nil", 0, []int{}, fresh()},
		{"two", 0, []int{0, 1}, fresh()},
		{"four", 0, []int{0, 1, 2, 3}, fresh()},
		{"six", 0, []int{0, 1, 2, 3, 4, 5}, fresh()},
		{"seven", 0, []int{0, 1, 2, 3, 4, 5, 6}, fresh()},
		{"negative", -1, []int{-1, 0, 1}, fresh()},
		{"one, negative", -1, []int{-1}, fresh()},
		{"the least", 1, []int{least, 0, 1}, fresh()},
		{"too great", 0, []int{0, 1, 100}, fresh()},
		{"one, too great", 100, []int{100}, fresh()},
		{"the greatest", 0, []int{0, 1, most}, fresh()},
		{"twice the same", 0, []int{0, 0, 1}, fresh()},
		{"twice the same at the end", 0, []int{0, 1, 1}, fresh()},
		{"not in order", 0, []int{1, 0, 2}, fresh()},
		{"not in order at the end", 0, []int{0, 2, 1}, fresh()},
		{"decreasing", 0, []int{2, 1, 0}, fresh()},
		{"not one of them", 3, []int{0, 1, 2}, fresh()},
		{"between them", 2, three(), fresh()},
		{"-1 is not one of them", -1, []int{0, 1, 2}, fresh()},
		{"alone, another one", 1, []int{0}, fresh()},
		{"a term below 0", 0, []int{0}, raft.Keep{Term: -1, Voted: -1}},
		{"the least term", 0, []int{0}, raft.Keep{Term: least, Voted: -1}},
		{"a vote below -1", 0, []int{0}, raft.Keep{Voted: -2}},
		{"the least vote", 0, []int{0}, raft.Keep{Voted: least}},
	} {
		if n, err := raft.New(x.id, x.peers, x.k); n != nil || err != api.ErrArg {
			t.Errorf("%s: %v, %v", x.what, n, err)
		}
	}
}

// A vote may be one for any node, and a term may be any that is not negative.
func TestP121NewTakes(t *testing.T) {
	for _, k := range []raft.Keep{{}, {Term: 0, Voted: -1}, {Term: most, Voted: most}, {Voted: 100}, {Term: 5, Voted: 0, Log: logOf(0, 3, 9, 9)}} {
		n := node(t, 4, three(), k)
		wantKeep(t, n, k)
	}
}

// A nil Log counts as an empty one, and the node can use it.
func TestP121NewNoLog(t *testing.T) {
	n := node(t, 1, three(), fresh())
	wantNode(t, n, raft.Follow, -1, 0)
	wantKeep(t, n, raft.Keep{Voted: -1, Log: entry.New(0, 0)})
	wantTaken(t, n, 1)
	n = leader(t, three(), fresh())
	wantKeep(t, n, raft.Keep{Term: 1, Voted: 1, Log: func() *entry.Log { l := entry.New(0, 0); l.Add(entry.Entry{Term: 1}); return l }()})
}

// Neither the peers nor the log that New is given are modified or retained.
func TestP121NewArguments(t *testing.T) {
	peers, log := three(), logOf(3, 2, 2, 5)
	n := node(t, 4, peers, kept(5, log, "x"))
	peers[0], peers[1], peers[2] = 90, 91, 92
	log.Add(entry.Entry{Term: 9})
	log.Pass(5)
	wantKeep(t, n, kept(5, logOf(3, 2, 2, 5), "x"))
	l := n.Timeout()
	if len(l) != 2 || l[0].To != 1 || l[1].To != 7 {
		t.Error("asked:", l)
	}
	log = logOf(3, 2, 2, 5)
	leader(t, three(), kept(5, log, "x")).Propose("y")
	if !sameLog(log, logOf(3, 2, 2, 5)) {
		t.Error("the log was changed:", log.From(0, most))
	}
}

// What Keep returns is a copy: what happens to it does not happen to the node, nor the other way round.
func TestP121KeepIsACopy(t *testing.T) {
	n := leader(t, []int{4}, kept(5, logOf(3, 2, 2, 5), "x"))
	before := n.Keep()
	want := n.Keep()
	before.Log.Add(entry.Entry{Term: 9})
	before.Log.Pass(5)
	wantKeep(t, n, want)
	n.Propose("y")
	n.Taken()
	n.Compact(6, "z")
	if want.Log.Base() != 3 || want.Log.Last() != 6 || want.Data != "x" {
		t.Error("what was kept before has changed:", want)
	}
	m := node(t, 4, []int{4}, want)
	m.Timeout()
	if want.Log.Last() != 6 {
		t.Error("the log of another node has changed")
	}
}

// The Leader of one that leads is itself, that of a candidate, or of one that follows nobody, is -1.
func TestP121Leader(t *testing.T) {
	n := node(t, 4, three(), fresh())
	wantNode(t, n, raft.Follow, -1, 0)
	n.Receive(raft.Msg{Kind: raft.Put, From: 7, To: 4, Term: 1})
	wantNode(t, n, raft.Follow, 7, 0)
	n.Timeout()
	wantNode(t, n, raft.Stand, -1, 0)
	n.Receive(raft.Msg{Kind: raft.Vote, From: 1, To: 4, Term: 2, Ok: true})
	wantNode(t, n, raft.Lead, 4, 0)
	n.Receive(raft.Msg{Kind: raft.Vote, From: 1, To: 4, Term: 3, Ok: true})
	wantNode(t, n, raft.Follow, -1, 0)
	n.Receive(raft.Msg{Kind: raft.Whole, From: 1, To: 4, Term: 3})
	wantNode(t, n, raft.Follow, 1, 0)
}

func TestP121Taken(t *testing.T) {
	n := leader(t, three(), kept(4, logOf(3, 2, 4, 4), "up to 3"))
	wantTaken(t, n, 4)
	wantTaken(t, n, 4)
	n.Propose("a")
	n.Propose("b")
	wantTaken(t, n, 4)
	took(n, 7, 6, true)
	wantTaken(t, n, 4, data(4, 4), data(5, 4), "")
	wantTaken(t, n, 7)
	took(n, 4, 7, true)
	wantTaken(t, n, 7, "a")
	n.Propose("c")
	took(n, 4, 9, true)
	wantTaken(t, n, 8, "b", "c")
	wantTaken(t, n, 10)
	if err := n.Compact(9, "up to 9"); err != api.OK {
		t.Fatal(err)
	}
	wantTaken(t, n, 10)
}

// After a restart everything since Base is taken once more.
func TestP121TakenAfterRestart(t *testing.T) {
	n := leader(t, []int{4}, kept(1, logOf(2, 1, 1, 1), ""))
	wantTaken(t, n, 3, data(3, 1), data(4, 1), "")
	n = node(t, 4, []int{4}, n.Keep())
	wantNode(t, n, raft.Follow, -1, 2)
	wantTaken(t, n, 3)
	n.Timeout()
	wantTaken(t, n, 3, data(3, 1), data(4, 1), "", "")
}

// What a snapshot brought is not returned; what follows it is.
func TestP121TakenAfterWhole(t *testing.T) {
	n := node(t, 4, three(), kept(2, logOf(0, 0, 1, 1, 2), ""))
	n.Receive(raft.Msg{Kind: raft.Put, From: 1, To: 4, Term: 2, Index: 3, LogTerm: 2, Commit: 1})
	n.Receive(raft.Msg{Kind: raft.Whole, From: 1, To: 4, Term: 2, Index: 6, LogTerm: 2, Data: "up to 6"})
	wantTaken(t, n, 7)
	n.Receive(raft.Msg{Kind: raft.Put, From: 1, To: 4, Term: 2, Index: 6, LogTerm: 2, Commit: 8, L: after(6, 2, 2, 2)})
	wantTaken(t, n, 7, data(7, 2), data(8, 2))
	wantTaken(t, n, 9)
	n.Receive(raft.Msg{Kind: raft.Whole, From: 1, To: 4, Term: 2, Index: 9, LogTerm: 2, Data: "up to 9"})
	wantTaken(t, n, 10)
}

// What Taken returns is new memory.
func TestP121TakenIsNew(t *testing.T) {
	n := leader(t, []int{4}, kept(1, logOf(0, 0, 1, 1), ""))
	_, l := n.Taken()
	l = append(l, "x")
	slices.Reverse(l)
	wantTaken(t, n, 4)
	want := logOf(0, 0, 1, 1)
	want.Add(entry.Entry{Term: 2})
	wantKeep(t, n, raft.Keep{Term: 2, Voted: 4, Log: want})
}
