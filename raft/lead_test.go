package raft_test

import (
	"slices"
	"testing"

	"daisychain/api"
	"daisychain/entry"
	"daisychain/raft"
)

// putOf is a Put of node 1, in a term.
func putOf(to, term, index, logTerm, commit int, l ...entry.Entry) raft.Msg {
	return raft.Msg{Kind: raft.Put, From: 1, To: to, Term: term, Index: index, LogTerm: logTerm, Commit: commit, L: l}
}

// wholeOf is a Whole of node 1, in a term.
func wholeOf(to, term, index, logTerm, commit int, data string) raft.Msg {
	return raft.Msg{Kind: raft.Whole, From: 1, To: to, Term: term, Index: index, LogTerm: logTerm, Commit: commit, Data: data}
}

// The vote of the node itself is the first one of three; the second one is a majority.
func TestP12Example(t *testing.T) {
	n := node(t, 1, three(), fresh())
	n.Timeout()
	wantMsgs(t, n.Receive(raft.Msg{Kind: raft.Vote, From: 4, To: 1, Term: 1}))
	wantNode(t, n, raft.Stand, -1, 0)
	l := n.Receive(raft.Msg{Kind: raft.Vote, From: 7, To: 1, Term: 1, Ok: true})
	wantNode(t, n, raft.Lead, 1, 0)
	wantMsgs(t, l, putOf(4, 1, 0, 0, 0, entry.Entry{Term: 1}), putOf(7, 1, 0, 0, 0, entry.Entry{Term: 1}))
}

// One that begins to lead assumes that the others have its log, but for the entry that it appends.
func TestP123Begins(t *testing.T) {
	n := node(t, 1, three(), kept(5, logOf(3, 2, 2, 5), "x"))
	n.Timeout()
	l := n.Receive(raft.Msg{Kind: raft.Vote, From: 7, To: 1, Term: 6, Ok: true})
	wantMsgs(t, l, putOf(4, 6, 5, 5, 3, entry.Entry{Term: 6}), putOf(7, 6, 5, 5, 3, entry.Entry{Term: 6}))
	want := logOf(3, 2, 2, 5)
	want.Add(entry.Entry{Term: 6})
	wantKeep(t, n, raft.Keep{Term: 6, Voted: 1, Log: want, Data: "x"})
	wantNode(t, n, raft.Lead, 1, 3)
	wantTaken(t, n, 4)
}

// A Put has at most 8 entries, whatever more the log has.
func TestP123AtMostEight(t *testing.T) {
	n := leader(t, three(), fresh())
	all := []entry.Entry{{Term: 1}}
	for k := 2; k <= 12; k++ {
		e := entry.Entry{Term: 1, Data: data(k, 1)}
		all = append(all, e)
		number, l, err := n.Propose(e.Data)
		if number != k || err != api.OK {
			t.Fatalf("Propose: %d, %v", number, err)
		}
		few := all[:min(k, 8)]
		wantMsgs(t, l, putOf(4, 1, 0, 0, 0, few...), putOf(7, 1, 0, 0, 0, few...))
	}
	wantMsgs(t, took(n, 4, 3, true))
	wantMsgs(t, n.Beat(), putOf(4, 1, 3, 1, 3, all[3:11]...), putOf(7, 1, 0, 0, 3, all[:8]...))
	took(n, 4, 4, true)
	took(n, 7, 11, true)
	wantMsgs(t, n.Beat(), putOf(4, 1, 4, 1, 11, all[4:12]...), putOf(7, 1, 11, 1, 11, all[11]))
	took(n, 7, 12, true)
	wantMsgs(t, n.Beat(), putOf(4, 1, 4, 1, 12, all[4:12]...), putOf(7, 1, 12, 1, 12))
}

// Whoever is assumed to have less than Base gets the snapshot.
func TestP123Whole(t *testing.T) {
	n := leader(t, three(), kept(5, logOf(3, 2, 2, 5), "up to 3"))
	took(n, 4, 3, false)
	took(n, 7, 2, false)
	wantMsgs(t, n.Beat(), putOf(4, 6, 3, 2, 3, append(after(3, 2, 5), entry.Entry{Term: 6})...), wholeOf(7, 6, 3, 2, 3, "up to 3"))
	took(n, 4, 6, true)
	n.Taken()
	wantMsgs(t, n.Beat(), putOf(4, 6, 6, 6, 6), wholeOf(7, 6, 3, 2, 6, "up to 3"))
	n.Compact(5, "up to 5")
	wantMsgs(t, n.Beat(), putOf(4, 6, 6, 6, 6), wholeOf(7, 6, 5, 5, 6, "up to 5"))
	took(n, 7, 5, true)
	wantMsgs(t, n.Beat(), putOf(4, 6, 6, 6, 6), putOf(7, 6, 5, 5, 6, entry.Entry{Term: 6}))
	n.Compact(6, "up to 6")
	wantMsgs(t, n.Beat(), putOf(4, 6, 6, 6, 6), wholeOf(7, 6, 6, 6, 6, "up to 6"))
	_, l, _ := n.Propose("y")
	wantMsgs(t, l, putOf(4, 6, 6, 6, 6, entry.Entry{Term: 6, Data: "y"}), wholeOf(7, 6, 6, 6, 6, "up to 6"))
}

// The entries of two messages share nothing that matters: a change of one is not seen in the other, nor in the log.
func TestP123EntriesOfMessages(t *testing.T) {
	n := leader(t, three(), fresh())
	n.Propose("x")
	before := n.Keep()
	for _, m := range n.Beat() {
		_ = append(m.L, entry.Entry{Term: 9})
	}
	wantKeep(t, n, before)
	put := putOf(4, 1, 0, 0, 0, entry.Entry{Term: 1}, entry.Entry{Term: 1, Data: "x"})
	early := n.Beat()
	n.Propose("y")
	took(n, 4, 3, true)
	n.Taken()
	n.Compact(2, "z")
	wantMsgs(t, early[:1], put)
}

// With three nodes, one other one makes a majority.
func TestP123CommitsOfThree(t *testing.T) {
	n := leader(t, three(), fresh())
	n.Propose("a")
	n.Propose("b")
	wantNode(t, n, raft.Lead, 1, 0)
	took(n, 7, 1, true)
	wantNode(t, n, raft.Lead, 1, 1)
	took(n, 4, 3, true)
	wantNode(t, n, raft.Lead, 1, 3)
	took(n, 7, 2, true)
	wantNode(t, n, raft.Lead, 1, 3)
	n.Propose("c")
	wantNode(t, n, raft.Lead, 1, 3)
}

// With five nodes, two others do.
func TestP123CommitsOfFive(t *testing.T) {
	n := leader(t, five(), fresh())
	for range 9 {
		n.Propose("a")
	}
	for _, x := range []struct{ from, index, commit int }{
		{2, 4, 0}, {2, 4, 0}, {5, 2, 2}, {5, 3, 3}, {50, 9, 4}, {99, 10, 9}, {5, 7, 9}, {2, 10, 10},
	} {
		took(n, x.from, x.index, true)
		wantNode(t, n, raft.Lead, 0, x.commit)
	}
}

// Entries of earlier terms are committed only with one of the leader's own.
func TestP123OwnTermOnly(t *testing.T) {
	n := leader(t, three(), kept(5, logOf(3, 2, 2, 5, 5), "x"))
	for _, k := range []int{4, 5, 6} {
		took(n, 4, k, true)
		took(n, 7, k, true)
		wantNode(t, n, raft.Lead, 1, 3)
	}
	wantTaken(t, n, 4)
	took(n, 7, 7, true)
	wantNode(t, n, raft.Lead, 1, 7)
	wantTaken(t, n, 4, data(4, 2), data(5, 5), data(6, 5), "")
}

// Even where the entry that a majority has is not of its term, one before it may be.
func TestP123OwnTermBefore(t *testing.T) {
	n := leader(t, three(), kept(5, logOf(3, 2, 6, 6, 4, 4), "x"))
	took(n, 4, 7, true)
	wantNode(t, n, raft.Lead, 1, 5)
	took(n, 4, 8, true)
	wantNode(t, n, raft.Lead, 1, 8)
}

// What is assumed does not count, only what is known.
func TestP123AssumedDoesNotCount(t *testing.T) {
	n := leader(t, five(), kept(5, logOf(0, 0, 5, 5), ""))
	for range 3 {
		n.Beat()
		n.Propose("a")
	}
	wantNode(t, n, raft.Lead, 0, 0)
	for range 3 {
		took(n, 2, 6, true)
		wantNode(t, n, raft.Lead, 0, 0)
	}
	took(n, 99, 6, true)
	wantNode(t, n, raft.Lead, 0, 6)
}

// What was known, and assumed, while it led before, is forgotten when it leads again.
func TestP123LeadsAgain(t *testing.T) {
	n := leader(t, three(), fresh())
	n.Propose("a")
	took(n, 4, 0, false)
	took(n, 7, 2, true)
	wantNode(t, n, raft.Lead, 1, 2)
	n.Propose("b")
	took(n, 7, 3, true)
	n.Receive(raft.Msg{Kind: raft.Took, From: 4, To: 1, Term: 2})
	wantNode(t, n, raft.Follow, -1, 3)
	n.Timeout()
	l := n.Receive(raft.Msg{Kind: raft.Vote, From: 4, To: 1, Term: 3, Ok: true})
	wantMsgs(t, l, putOf(4, 3, 3, 1, 3, entry.Entry{Term: 3}), putOf(7, 3, 3, 1, 3, entry.Entry{Term: 3}))
	took(n, 4, 3, true)
	wantNode(t, n, raft.Lead, 1, 3)
	took(n, 4, 4, true)
	wantNode(t, n, raft.Lead, 1, 4)
}

// Many entries are proposed in a reasonable time, and reach another node eight by eight.
func TestP123Many(t *testing.T) {
	const many = 20000
	n, m := leader(t, three(), fresh()), node(t, 4, three(), fresh())
	for range many {
		n.Propose("x")
	}
	for k := 8; k <= 2000; k += 8 {
		for _, put := range n.Beat()[:1] {
			n.Receive(m.Receive(put)[0])
		}
		wantNode(t, n, raft.Lead, 1, k)
		wantNode(t, m, raft.Follow, 1, k-8)
	}
	from, l := n.Taken()
	if from != 1 || len(l) != 2000 || slices.Contains(l[1:], "") {
		t.Error("Taken:", from, len(l))
	}
	took(n, 7, many+1, true)
	if from, l = n.Taken(); from != 2001 || len(l) != many-1999 {
		t.Error("Taken:", from, len(l))
	}
}
