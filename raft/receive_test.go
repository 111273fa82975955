package raft_test

import (
	"slices"
	"strconv"
	"testing"

	"daisychain/entry"
	"daisychain/raft"
)

// kinds are all kinds, and some that are none.
func kinds() []int {
	return []int{raft.Ask, raft.Vote, raft.Put, raft.Took, raft.Whole, -1, 5, least, most}
}

// voteOf is node 4's Vote.
func voteOf(to, term int, ok bool) raft.Msg {
	return raft.Msg{Kind: raft.Vote, From: 4, To: to, Term: term, Ok: ok}
}

// tookOf is node 4's Took.
func tookOf(to, term, index int, ok bool) raft.Msg {
	return raft.Msg{Kind: raft.Took, From: 4, To: to, Term: term, Index: index, Ok: ok}
}

// A message to another node, or not from one of the others, is ignored.
func TestP124Ignored(t *testing.T) {
	for _, kind := range kinds() {
		for _, x := range []struct{ from, to int }{{1, 7}, {1, 1}, {1, 0}, {1, -1}, {1, most}, {4, 4}, {0, 4}, {-1, 4}, {2, 4}, {100, 4}, {least, 4}, {7, 1}} {
			n := node(t, 4, three(), kept(5, logOf(3, 2, 2, 5), "x"))
			n.Timeout()
			before := n.Keep()
			m := raft.Msg{Kind: kind, From: x.from, To: x.to, Term: 9, Index: 5, LogTerm: 5, Commit: 5, Ok: true, L: after(5, 9)}
			for _, m.Term = range []int{5, 6, 9, most} {
				wantMsgs(t, n.Receive(m))
				wantNode(t, n, raft.Stand, -1, 3)
				wantKeep(t, n, before)
			}
		}
	}
}

// A greater term becomes the node's own, whatever its role, and whatever the message: it voted for nobody, and follows
// nobody. (A candidate is asked here who would not have its vote.)
func TestP124GreaterTerm(t *testing.T) {
	for _, kind := range []int{raft.Ask, raft.Vote, raft.Took, -1, 5, least, most} {
		for _, role := range []int{raft.Follow, raft.Stand, raft.Lead} {
			n := node(t, 1, three(), kept(5, logOf(3, 2, 2, 5), "x"))
			switch role {
			case raft.Follow:
				n.Receive(raft.Msg{Kind: raft.Put, From: 7, To: 1, Term: 6, Index: 5, LogTerm: 5})
			case raft.Lead:
				n.Timeout()
				n.Receive(voteOf(1, 6, true))
			default:
				n.Timeout()
			}
			want := n.Keep()
			want.Term, want.Voted = 8, -1
			l := n.Receive(raft.Msg{Kind: kind, From: 4, To: 1, Term: 8, Index: 3, LogTerm: 2, Ok: true})
			if kind == raft.Ask {
				wantMsgs(t, l, raft.Msg{Kind: raft.Vote, From: 1, To: 4, Term: 8})
			} else {
				wantMsgs(t, l)
			}
			wantNode(t, n, raft.Follow, -1, 3)
			wantKeep(t, n, want)
			wantMsgs(t, n.Beat())
		}
	}
}

// Messages of the same term, or of an older one, of a kind that is none, change nothing.
func TestP124NoSuchKind(t *testing.T) {
	for _, kind := range []int{-1, 5, least, most} {
		n := leader(t, three(), kept(5, logOf(3, 2, 2, 5), "x"))
		before := n.Keep()
		for _, term := range []int{6, 5, 0, -1, least} {
			wantMsgs(t, n.Receive(raft.Msg{Kind: kind, From: 4, To: 1, Term: term, Index: 6, LogTerm: 6, Commit: 6, Ok: true, L: after(5, 9)}))
			wantNode(t, n, raft.Lead, 1, 3)
			wantKeep(t, n, before)
		}
	}
}

func TestP124Ask(t *testing.T) {
	for _, x := range []struct {
		what                string
		voted, term         int
		index, logTerm      int
		ok                  bool
		wantTerm, wantVoted int
	}{
		{"as new", -1, 5, 5, 5, true, 5, 4},
		{"longer", -1, 5, 6, 5, true, 5, 4},
		{"newer", -1, 5, 1, 6, true, 5, 4},
		{"shorter", -1, 5, 4, 5, false, 5, -1},
		{"older, though longer", -1, 5, 9, 4, false, 5, -1},
		{"voted for it", 4, 5, 5, 5, true, 5, 4},
		{"voted for it, but shorter", 4, 5, 4, 5, false, 5, 4},
		{"voted for another one", 7, 5, 5, 5, false, 5, 7},
		{"voted for itself", 1, 5, 9, 9, false, 5, 1},
		{"voted for one that is no peer", 60, 5, 9, 9, false, 5, 60},
		{"an older term", -1, 4, 9, 9, false, 5, -1},
		{"an older term, voted for it", 4, 4, 9, 9, false, 5, 4},
		{"a term below 0", -1, -1, 9, 9, false, 5, -1},
		{"the least term", 4, least, most, most, false, 5, 4},
		{"a greater term", -1, 6, 5, 5, true, 6, 4},
		{"a greater term, voted before", 7, 6, 5, 5, true, 6, 4},
		{"a greater term, shorter", 4, 6, 4, 5, false, 6, -1},
		{"a greater term, older", 7, 6, 9, 4, false, 6, -1},
		{"the greatest term", 7, most, most, most, true, most, 4},
	} {
		t.Run(x.what, func(t *testing.T) {
			k := raft.Keep{Term: 5, Voted: x.voted, Log: logOf(3, 2, 2, 5), Data: "x"}
			n := node(t, 1, three(), k)
			l := n.Receive(raft.Msg{Kind: raft.Ask, From: 4, To: 1, Term: x.term, Index: x.index, LogTerm: x.logTerm})
			wantMsgs(t, l, raft.Msg{Kind: raft.Vote, From: 1, To: 4, Term: x.wantTerm, Ok: x.ok})
			wantNode(t, n, raft.Follow, -1, 3)
			k.Term, k.Voted = x.wantTerm, x.wantVoted
			wantKeep(t, n, k)
		})
	}
}

// In each term it votes for one node only, and for that one as often as it is asked.
func TestP124AskedOften(t *testing.T) {
	n := node(t, 0, five(), fresh())
	for term := 1; term < 20; term++ {
		first := five()[1+term%4]
		for _, p := range append([]int{first, first}, five()[1:]...) {
			l := n.Receive(raft.Msg{Kind: raft.Ask, From: p, To: 0, Term: term})
			wantMsgs(t, l, raft.Msg{Kind: raft.Vote, From: 0, To: p, Term: term, Ok: p == first})
		}
		n = node(t, 0, five(), n.Keep())
	}
}

// A node that follows another one, but did not vote, still has its vote, and goes on to follow that one.
func TestP124AskOfOneThatFollows(t *testing.T) {
	n := node(t, 1, three(), fresh())
	n.Receive(raft.Msg{Kind: raft.Put, From: 7, To: 1, Term: 3})
	l := n.Receive(raft.Msg{Kind: raft.Ask, From: 4, To: 1, Term: 3})
	wantMsgs(t, l, raft.Msg{Kind: raft.Vote, From: 1, To: 4, Term: 3, Ok: true})
	wantNode(t, n, raft.Follow, 7, 0)
}

// A candidate, and a leader, voted for itself.
func TestP124AskOfACandidate(t *testing.T) {
	n := node(t, 1, three(), fresh())
	n.Timeout()
	ask := raft.Msg{Kind: raft.Ask, From: 4, To: 1, Term: 1, Index: 9, LogTerm: 9}
	refused := raft.Msg{Kind: raft.Vote, From: 1, To: 4, Term: 1}
	wantMsgs(t, n.Receive(ask), refused)
	wantNode(t, n, raft.Stand, -1, 0)
	n.Receive(voteOf(1, 1, true))
	wantMsgs(t, n.Receive(ask), refused)
	wantNode(t, n, raft.Lead, 1, 0)
}

// Of three, one other vote is a majority; of five, two are.
func TestP124Vote(t *testing.T) {
	for _, peers := range [][]int{three(), five()} {
		for first := 1; first < len(peers); first++ {
			n := node(t, peers[0], peers, fresh())
			n.Timeout()
			for i := range len(peers) / 2 {
				wantNode(t, n, raft.Stand, -1, 0)
				from := peers[1+(first-1+i)%(len(peers)-1)]
				l := n.Receive(raft.Msg{Kind: raft.Vote, From: from, To: peers[0], Term: 1, Ok: true})
				if last := i == len(peers)/2-1; len(l) != 0 && !last || last && len(l) != len(peers)-1 {
					t.Fatal("sent:", l)
				}
			}
			wantNode(t, n, raft.Lead, peers[0], 0)
		}
	}
}

// A vote counts once for each node, and only if it is Ok and of the node's term.
func TestP124VotesThatDoNotCount(t *testing.T) {
	n := node(t, 0, five(), kept(5, nil, ""))
	n.Timeout()
	for range 3 {
		for _, m := range []raft.Msg{
			{From: 2, Term: 6, Ok: true}, {From: 5, Term: 5, Ok: true}, {From: 50, Term: 6}, {From: 99, Term: least, Ok: true},
			{From: 0, Term: 6, Ok: true}, {From: 7, Term: 6, Ok: true},
		} {
			m.Kind, m.To = raft.Vote, 0
			wantMsgs(t, n.Receive(m))
			wantNode(t, n, raft.Stand, -1, 0)
		}
	}
	n.Receive(raft.Msg{Kind: raft.Vote, From: 50, To: 0, Term: 6, Ok: true})
	wantNode(t, n, raft.Lead, 0, 0)
}

// A vote of a greater term makes no candidate lead: the node is none any more.
func TestP124VoteOfAGreaterTerm(t *testing.T) {
	n := node(t, 1, three(), fresh())
	n.Timeout()
	wantMsgs(t, n.Receive(voteOf(1, 2, true)))
	wantNode(t, n, raft.Follow, -1, 0)
	wantKeep(t, n, kept(2, entry.New(0, 0), ""))
	wantMsgs(t, n.Receive(voteOf(1, 2, true)))
	wantNode(t, n, raft.Follow, -1, 0)
}

// A leader counts no votes, so that it does not begin again, and one that follows neither.
func TestP124VoteOfNoCandidate(t *testing.T) {
	n := leader(t, three(), fresh())
	before := n.Keep()
	for _, p := range []int{4, 7} {
		wantMsgs(t, n.Receive(raft.Msg{Kind: raft.Vote, From: p, To: 1, Term: 1, Ok: true}))
	}
	wantKeep(t, n, before)
	n = node(t, 1, three(), fresh())
	for _, p := range []int{4, 7} {
		wantMsgs(t, n.Receive(raft.Msg{Kind: raft.Vote, From: p, To: 1, Term: 0, Ok: true}))
	}
	wantNode(t, n, raft.Follow, -1, 0)
}

// What is of an older term is refused, and changes nothing.
func TestP124OlderPut(t *testing.T) {
	for _, kind := range []int{raft.Put, raft.Whole} {
		n := leader(t, three(), kept(5, logOf(3, 2, 2, 5), "x"))
		before := n.Keep()
		for _, term := range []int{5, 0, -1, least} {
			l := n.Receive(raft.Msg{Kind: kind, From: 4, To: 1, Term: term, Index: 5, LogTerm: 5, Commit: 9, L: after(5, 9), Data: "y"})
			wantMsgs(t, l, raft.Msg{Kind: raft.Took, From: 1, To: 4, Term: 6})
			wantNode(t, n, raft.Lead, 1, 3)
			wantKeep(t, n, before)
		}
	}
}

// Otherwise the node follows the sender, whatever it did, even if the log is refused.
func TestP124Follows(t *testing.T) {
	for _, kind := range []int{raft.Put, raft.Whole} {
		for _, term := range []int{6, 7, most} {
			for role := raft.Follow; role <= raft.Lead; role++ {
				for _, index := range []int{0, 3, 9} {
					n := node(t, 1, three(), raft.Keep{Term: 6, Voted: 1})
					if role != raft.Follow {
						n = node(t, 1, three(), kept(5, nil, ""))
						n.Timeout()
					}
					if role == raft.Lead {
						n.Receive(voteOf(1, 6, true))
					}
					l := n.Receive(raft.Msg{Kind: kind, From: 7, To: 1, Term: term, Index: index, LogTerm: 2})
					if len(l) != 1 || l[0].Kind != raft.Took || l[0].Term != term {
						t.Fatal("sent:", l)
					}
					if n.Role() != raft.Follow || n.Leader() != 7 {
						t.Fatal("role, leader:", n.Role(), n.Leader())
					}
					if k := n.Keep(); k.Term != term || (k.Voted == 1) != (term == 6) {
						t.Fatal("term, voted:", k.Term, k.Voted)
					}
					wantMsgs(t, n.Beat())
				}
			}
		}
	}
}

// Each case is a node of term 5 with Base 3 of term 2, and entries 4 to 6 of the terms 2, 4, 4.
func TestP124Put(t *testing.T) {
	for _, x := range []struct {
		what           string
		index, logTerm int
		more           []int
		commit         int
		wantIndex      int
		ok             bool
		terms          []int
		wantCommit     int
	}{
		{"none", 6, 4, nil, 3, 6, true, []int{2, 4, 4}, 3},
		{"none, committed", 6, 4, nil, 5, 6, true, []int{2, 4, 4}, 5},
		{"none, more committed than there is", 6, 4, nil, 9, 6, true, []int{2, 4, 4}, 6},
		{"none, more committed than is known to be the same", 4, 2, nil, 9, 4, true, []int{2, 4, 4}, 4},
		{"appended", 6, 4, []int{5, 5}, 3, 8, true, []int{2, 4, 4, 5, 5}, 3},
		{"appended, committed", 6, 4, []int{5, 5}, 7, 8, true, []int{2, 4, 4, 5, 5}, 7},
		{"there already", 3, 2, []int{2, 4}, 9, 5, true, []int{2, 4, 4}, 5},
		{"replaced", 4, 2, []int{5}, 9, 5, true, []int{2, 5}, 5},
		{"less committed", 4, 2, []int{5}, 0, 5, true, []int{2, 5}, 3},
		{"a Commit below 0", 4, 2, []int{5}, least, 5, true, []int{2, 5}, 3},
		{"the greatest Commit", 4, 2, []int{5}, most, 5, true, []int{2, 5}, 5},
		{"all discarded", 0, 0, []int{1, 2}, 9, 2, true, []int{2, 4, 4}, 3},
		{"all discarded, up to Base", 1, 1, []int{2, 2}, 9, 3, true, []int{2, 4, 4}, 3},
		{"some discarded", 1, 1, []int{2, 2, 2, 5}, 9, 5, true, []int{2, 5}, 5},
		{"another term", 6, 5, []int{5}, 9, 6, false, []int{2, 4, 4}, 3},
		{"another term within", 4, 4, []int{4}, 9, 6, false, []int{2, 4, 4}, 3},
		{"another term at Base", 3, 1, []int{4}, 9, 6, false, []int{2, 4, 4}, 3},
		{"behind the end", 7, 4, []int{4}, 9, 6, false, []int{2, 4, 4}, 3},
		{"far behind the end", most, 4, []int{4}, 9, 6, false, []int{2, 4, 4}, 3},
		{"negative", -1, 4, []int{4}, 9, 6, false, []int{2, 4, 4}, 3},
		{"the least", least, 0, nil, 9, 6, false, []int{2, 4, 4}, 3},
	} {
		t.Run(x.what, func(t *testing.T) {
			n := node(t, 1, three(), raft.Keep{Term: 5, Voted: 7, Log: logOf(3, 2, 2, 4, 4), Data: "x"})
			more := after(x.index, x.more...)
			l := n.Receive(raft.Msg{Kind: raft.Put, From: 4, To: 1, Term: 5, Index: x.index, LogTerm: x.logTerm, Commit: x.commit, L: more})
			wantMsgs(t, l, raft.Msg{Kind: raft.Took, From: 1, To: 4, Term: 5, Index: x.wantIndex, Ok: x.ok})
			wantNode(t, n, raft.Follow, 4, x.wantCommit)
			wantKeep(t, n, raft.Keep{Term: 5, Voted: 7, Log: logOf(3, 2, x.terms...), Data: "x"})
			var taken []string
			for k := 4; k <= x.wantCommit; k++ {
				taken = append(taken, data(k, x.terms[k-4]))
			}
			wantTaken(t, n, 4, taken...)
		})
	}
}

// A refused Put tells the Last of the log, which may be its Base.
func TestP124PutRefusedWithoutEntries(t *testing.T) {
	n := node(t, 1, three(), kept(5, logOf(3, 2), "x"))
	l := n.Receive(raft.Msg{Kind: raft.Put, From: 4, To: 1, Term: 5, Index: 9, LogTerm: 2})
	wantMsgs(t, l, tookBy1(5, 3, false))
	n = node(t, 1, three(), fresh())
	l = n.Receive(raft.Msg{Kind: raft.Put, From: 4, To: 1, Term: 5, Index: 9, LogTerm: 2})
	wantMsgs(t, l, tookBy1(5, 0, false))
}

// tookBy1 is node 1's Took for node 4.
func tookBy1(term, index int, ok bool) raft.Msg {
	return raft.Msg{Kind: raft.Took, From: 1, To: 4, Term: term, Index: index, Ok: ok}
}

// Commit does not decrease, whatever a leader tells.
func TestP124CommitStays(t *testing.T) {
	n := node(t, 1, three(), kept(5, logOf(0, 0, 1, 1, 1, 1), ""))
	for _, x := range []struct{ index, commit, want int }{{4, 3, 3}, {4, 2, 3}, {2, 4, 3}, {4, 0, 3}, {4, -5, 3}, {0, 4, 3}, {4, 4, 4}, {3, 9, 4}} {
		term := min(x.index, 1)
		l := n.Receive(raft.Msg{Kind: raft.Put, From: 4, To: 1, Term: 5, Index: x.index, LogTerm: term, Commit: x.commit})
		wantMsgs(t, l, tookBy1(5, x.index, true))
		wantNode(t, n, raft.Follow, 4, x.want)
	}
}

// The entries of a message are neither modified nor retained.
func TestP124PutArguments(t *testing.T) {
	given := after(0, 1, 1, 2, 2)
	n := node(t, 1, three(), fresh())
	n.Receive(raft.Msg{Kind: raft.Put, From: 4, To: 1, Term: 5, L: given[:3]})
	n.Timeout()
	n.Receive(voteOf(1, 6, true))
	if !slices.Equal(given, after(0, 1, 1, 2, 2)) {
		t.Error("changed:", given)
	}
	for i := range given {
		given[i] = entry.Entry{Term: 9}
	}
	if l := n.Keep().Log.From(1, 3); !slices.Equal(l, after(0, 1, 1, 2)) {
		t.Error("retained:", l)
	}
}

// Each case is a node of term 5 with Base 3 of term 2, entries 4 to 6 of the terms 2, 4, 4, and Commit 4.
func TestP124Whole(t *testing.T) {
	for _, x := range []struct {
		what           string
		index, logTerm int
		want           *entry.Log
		data           string
		commit         int
	}{
		{"there", 5, 4, logOf(5, 4, 4), "new", 5},
		{"there, the last one", 6, 4, logOf(6, 4), "new", 6},
		{"another term", 5, 3, logOf(5, 3), "new", 5},
		{"another term, the last one", 6, 5, logOf(6, 5), "new", 6},
		{"behind the end", 7, 4, logOf(7, 4), "new", 7},
		{"far behind the end", 1 << 40, 5, logOf(1<<40, 5), "new", 1 << 40},
		{"committed", 4, 2, logOf(3, 2, 2, 4, 4), "old", 4},
		{"committed, another term", 4, 9, logOf(3, 2, 2, 4, 4), "old", 4},
		{"at Base", 3, 2, logOf(3, 2, 2, 4, 4), "old", 4},
		{"before Base", 1, 1, logOf(3, 2, 2, 4, 4), "old", 4},
		{"at 0", 0, 0, logOf(3, 2, 2, 4, 4), "old", 4},
		{"negative", -1, 0, logOf(3, 2, 2, 4, 4), "old", 4},
		{"the least", least, least, logOf(3, 2, 2, 4, 4), "old", 4},
	} {
		t.Run(x.what, func(t *testing.T) {
			n := node(t, 1, three(), raft.Keep{Term: 5, Voted: 7, Log: logOf(3, 2, 2, 4, 4), Data: "old"})
			n.Receive(raft.Msg{Kind: raft.Put, From: 4, To: 1, Term: 5, Index: 4, LogTerm: 2, Commit: 4})
			l := n.Receive(raft.Msg{Kind: raft.Whole, From: 4, To: 1, Term: 5, Index: x.index, LogTerm: x.logTerm, Commit: 99, Data: "new"})
			wantMsgs(t, l, tookBy1(5, x.index, true))
			wantNode(t, n, raft.Follow, 4, x.commit)
			wantKeep(t, n, raft.Keep{Term: 5, Voted: 7, Log: x.want, Data: x.data})
			if x.commit == 4 {
				wantTaken(t, n, 4, data(4, 2))
			}
			wantTaken(t, n, x.commit+1)
		})
	}
}

// What was taken before a snapshot came that brings no more is not taken again.
func TestP124WholeAfterTaken(t *testing.T) {
	n := node(t, 1, three(), kept(5, logOf(0, 0, 1, 1, 1), ""))
	n.Receive(raft.Msg{Kind: raft.Put, From: 4, To: 1, Term: 5, Index: 3, LogTerm: 1, Commit: 3})
	wantTaken(t, n, 1, data(1, 1), data(2, 1), data(3, 1))
	n.Receive(raft.Msg{Kind: raft.Whole, From: 4, To: 1, Term: 5, Index: 2, LogTerm: 1, Data: "y"})
	wantTaken(t, n, 4)
	wantKeep(t, n, kept(5, logOf(0, 0, 1, 1, 1), ""))
}

// What a leader sends next tells what it learnt: each line is a Took, and then where the Put to its sender begins.
func TestP124Took(t *testing.T) {
	n := leader(t, three(), kept(5, logOf(0, 0, 1, 1, 2, 3, 5, 5), ""))
	for i, x := range []struct {
		index  int
		ok     bool
		want   int
		commit int
	}{
		{99, false, 5, 0},    // one less than before
		{6, false, 4, 0},     // one less again
		{2, false, 2, 0},     // Index is smaller
		{2, false, 1, 0},     // one less
		{1, true, 1, 0},      // is assumed, and now known
		{0, true, 1, 0},      // known already
		{3, true, 3, 0},      // more
		{2, true, 3, 0},      // less than is known
		{least, true, 3, 0},  // far less
		{3, false, 2, 0},     // less may be assumed than is known
		{1, true, 3, 0},      // at least what is known
		{-7, false, 0, 0},    // at least 0
		{least, false, 0, 0}, // and again
		{0, false, 0, 0},     // and again
		{4, true, 4, 0},      // not of the leader's term
		{7, true, 7, 7},      // the leader's own
		{most, true, 7, 7},   // at most Last
		{6, true, 7, 7},
		{most, false, 6, 7},
	} {
		wantMsgs(t, took(n, 4, x.index, x.ok))
		if at := n.Beat()[0].Index; at != x.want || n.Commit() != x.commit {
			t.Fatalf("Took %d: a Put at %d, want %d, and Commit %d, want %d", i, at, x.want, n.Commit(), x.commit)
		}
		if at := n.Beat()[1].Index; at != 6 {
			t.Fatalf("Took %d: a Put to another one at %d", i, at)
		}
	}
}

// At most Last is known to be taken, so that what is appended later is not committed by it.
func TestP124TookAtMostLast(t *testing.T) {
	n := leader(t, three(), fresh())
	took(n, 4, 99, true)
	wantNode(t, n, raft.Lead, 1, 1)
	n.Propose("a")
	wantNode(t, n, raft.Lead, 1, 1)
	took(n, 7, 1, true)
	wantNode(t, n, raft.Lead, 1, 1)
	if at := n.Beat()[0].Index; at != 1 {
		t.Error("a Put at", at)
	}
}

// A Took counts only for one that leads, in its term.
func TestP124TookThatDoesNotCount(t *testing.T) {
	n := leader(t, three(), kept(5, nil, ""))
	for _, term := range []int{5, 0, -1, least} {
		for _, ok := range []bool{true, false} {
			wantMsgs(t, n.Receive(tookOf(1, term, 0, ok)))
			wantMsgs(t, n.Receive(tookOf(1, term, 1, ok)))
			wantNode(t, n, raft.Lead, 1, 0)
		}
	}
	took(n, 4, 0, false)
	wantMsgs(t, n.Receive(tookOf(1, 5, 1, true)))
	wantNode(t, n, raft.Lead, 1, 0)
	for _, n := range []*raft.Node{node(t, 1, three(), kept(5, logOf(0, 0, 5), "")), func() *raft.Node { n := node(t, 1, three(), kept(4, logOf(0, 0, 5), "")); n.Timeout(); return n }()} {
		role := n.Role()
		before := n.Keep()
		wantMsgs(t, took(n, 4, 1, true))
		wantMsgs(t, took(n, 7, 1, true))
		wantMsgs(t, took(n, 7, 1, false))
		wantNode(t, n, role, -1, 0)
		wantKeep(t, n, before)
	}
}

// A follower that lacks entries, or has others, has the leader's log in the end. (A leader has what another one discarded.)
func TestP124CatchesUp(t *testing.T) {
	leads := []*entry.Log{logOf(0, 0, 1, 1), logOf(0, 0, 1, 1, 3, 3, 3, 3, 3, 3, 3, 3, 3), logOf(0, 0, 1, 1, 2, 2, 4, 4), logOf(2, 1, 2, 2), logOf(2, 1)}
	others := append(leads, nil, logOf(0, 0, 1), logOf(0, 0, 2), logOf(0, 0, 1, 1, 2), logOf(0, 0, 1, 1, 1, 1, 1, 1))
	for i, a := range leads {
		for j, b := range others {
			t.Run(strconv.Itoa(i)+" "+strconv.Itoa(j), func(t *testing.T) {
				n := leader(t, three(), kept(5, a, "up to 2"))
				m := node(t, 4, three(), kept(5, b, "up to 2"))
				for range 20 {
					n.Receive(m.Receive(n.Beat()[0])[0])
				}
				x, y := n.Keep(), m.Keep()
				if n.Commit() != x.Log.Last() || m.Commit() != n.Commit() || max(x.Log.Base(), y.Log.Base()) == 2 && y.Data != "up to 2" {
					t.Fatal("Commit:", n.Commit(), m.Commit())
				}
				base := max(x.Log.Base(), y.Log.Base())
				x.Log.Pass(base)
				y.Log.Pass(base)
				if !sameLog(x.Log, y.Log) {
					t.Error("logs:", x.Log.From(0, most), y.Log.From(0, most))
				}
			})
		}
	}
}
