package raft_test

import (
	"math"
	"reflect"
	"slices"
	"strconv"
	"testing"

	"daisychain/api"
	"daisychain/entry"
	"daisychain/raft"
)

// least and most are the least and the greatest number.
const least, most = math.MinInt, math.MaxInt

// data is what stands in entry k, if it has that term.
func data(k, term int) string { return strconv.Itoa(k) + " of " + strconv.Itoa(term) }

// after are entries of these terms, numbered from at + 1 on.
func after(at int, terms ...int) []entry.Entry {
	var l []entry.Entry
	for i, term := range terms {
		l = append(l, entry.Entry{Term: term, Data: data(at+1+i, term)})
	}
	return l
}

// logOf is a log with that base, its term, and entries of these terms.
func logOf(base, term int, terms ...int) *entry.Log {
	l := entry.New(base, term)
	for _, e := range after(base, terms...) {
		l.Add(e)
	}
	return l
}

// fresh is what a node keeps that never did anything.
func fresh() raft.Keep { return raft.Keep{Voted: -1} }

// kept is what a node keeps that voted for nobody.
func kept(term int, log *entry.Log, data string) raft.Keep {
	return raft.Keep{Term: term, Voted: -1, Log: log, Data: data}
}

// node is a new one.
func node(t testing.TB, id int, peers []int, k raft.Keep) *raft.Node {
	t.Helper()
	n, err := raft.New(id, peers, k)
	if err != api.OK || n == nil {
		t.Fatalf("New of %d among %v: %v", id, peers, err)
	}
	return n
}

// three and five are the numbers of that many nodes.
func three() []int { return []int{1, 4, 7} }
func five() []int  { return []int{0, 2, 5, 50, 99} }

// leader is the first one of these nodes, which leads by the votes of the next ones, in the term after the one it keeps.
func leader(t testing.TB, peers []int, k raft.Keep) *raft.Node {
	t.Helper()
	n := node(t, peers[0], peers, k)
	n.Timeout()
	for _, p := range peers[1 : len(peers)/2+1] {
		n.Receive(raft.Msg{Kind: raft.Vote, From: p, To: peers[0], Term: k.Term + 1, Ok: true})
	}
	if n.Role() != raft.Lead {
		t.Fatalf("node %d of %v does not lead", peers[0], peers)
	}
	return n
}

// took has a leader receive a Took.
func took(n *raft.Node, from, index int, ok bool) []raft.Msg {
	return n.Receive(raft.Msg{Kind: raft.Took, From: from, To: n.Id(), Term: n.Keep().Term, Index: index, Ok: ok})
}

// wantNode checks a node's role, whom it follows, and its Commit.
func wantNode(t testing.TB, n *raft.Node, role, leader, commit int) {
	t.Helper()
	if n.Role() != role || n.Leader() != leader || n.Commit() != commit {
		t.Fatalf("node %d: role %d, leader %d, commit %d, want %d, %d, %d", n.Id(), n.Role(), n.Leader(), n.Commit(), role, leader, commit)
	}
}

// sameLog compares what two logs have; nil is an empty one.
func sameLog(a, b *entry.Log) bool {
	if a == nil {
		a = entry.New(0, 0)
	}
	if b == nil {
		b = entry.New(0, 0)
	}
	x, _ := a.Term(a.Base())
	y, _ := b.Term(b.Base())
	return a.Base() == b.Base() && x == y && slices.Equal(a.From(a.Base()+1, most), b.From(b.Base()+1, most))
}

// wantKeep checks what a node keeps.
func wantKeep(t testing.TB, n *raft.Node, want raft.Keep) {
	t.Helper()
	got := n.Keep()
	if got.Log == nil {
		t.Fatal("Keep has no log")
	}
	if got.Term != want.Term || got.Voted != want.Voted || got.Data != want.Data || !sameLog(got.Log, want.Log) {
		t.Fatalf("node %d keeps term %d, voted %d, %q, log %d %v\nwant term %d, voted %d, %q, log %d %v", n.Id(),
			got.Term, got.Voted, got.Data, got.Log.Base(), got.Log.From(0, most),
			want.Term, want.Voted, want.Data, want.Log.Base(), want.Log.From(0, most))
	}
}

// wantTaken checks what a node's Taken returns.
func wantTaken(t testing.TB, n *raft.Node, from int, want ...string) {
	t.Helper()
	if k, l := n.Taken(); k != from || !slices.Equal(l, want) {
		t.Fatalf("Taken of %d: %d, %q, want %d, %q", n.Id(), k, l, from, want)
	}
}

// wantMsgs checks messages; lists that are nil and those that are empty are the same.
func wantMsgs(t testing.TB, got []raft.Msg, want ...raft.Msg) {
	t.Helper()
	if len(got) != len(want) {
		t.Fatalf("messages: %+v, want %+v", got, want)
	}
	for i, m := range got {
		w := want[i]
		if len(m.L) == 0 && len(w.L) == 0 {
			m.L, w.L = nil, nil
		}
		if !reflect.DeepEqual(m, w) {
			t.Fatalf("message %d: %+v, want %+v", i, m, w)
		}
	}
}
