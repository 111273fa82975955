package raft

import (
	"slices"

	"daisychain/entry"
)

// Receive has a message come.
func (n *Node) Receive(m Msg) []Msg {
	if m.To != n.id || !slices.Contains(n.others, m.From) {
		return nil
	}
	if m.Term > n.kept.Term {
		n.enter(m.Term)
	}
	switch m.Kind {
	case Ask:
		return n.ask(m)
	case Vote:
		return n.vote(m)
	case Put, Whole:
		return n.take(m)
	case Took:
		n.took(m)
	}
	return nil
}

// ask answers a candidate.
func (n *Node) ask(m Msg) []Msg {
	free := n.kept.Voted == nobody || n.kept.Voted == m.From
	ok := m.Term == n.kept.Term && free && n.kept.Log.Newer(m.Index, m.LogTerm)
	if ok {
		n.kept.Voted = m.From
	}
	return []Msg{{Kind: Vote, From: n.id, To: m.From, Term: n.kept.Term, Ok: ok}}
}

// vote has a vote come.
func (n *Node) vote(m Msg) []Msg {
	if n.role != Stand || !m.Ok || m.Term != n.kept.Term {
		return nil
	}
	return n.count(m.From)
}

// take has it take what a leader has, and tell up to where it has that.
func (n *Node) take(m Msg) []Msg {
	k, ok := 0, false
	if m.Term == n.kept.Term {
		n.follow(m.From)
		k, ok = n.put(m)
	}
	return []Msg{{Kind: Took, From: n.id, To: m.From, Term: n.kept.Term, Index: k, Ok: ok}}
}

// put has a Put or a Whole change its log.
func (n *Node) put(m Msg) (int, bool) {
	if m.Kind == Whole {
		n.whole(m)
		return m.Index, true
	}
	k, ok := n.kept.Log.Merge(m.Index, m.LogTerm, m.L)
	if !ok {
		return n.kept.Log.Last(), false
	}
	n.commit = max(n.commit, min(m.Commit, k))
	return k, true
}

// whole has a snapshot take the place of what it stands for, unless all of that is committed here anyway.
func (n *Node) whole(m Msg) {
	if m.Index <= n.commit {
		return
	}
	if term, is := n.kept.Log.Term(m.Index); is && term == m.LogTerm {
		n.kept.Log.Pass(m.Index)
	} else {
		n.kept.Log = entry.New(m.Index, m.LogTerm)
	}
	n.kept.Data, n.commit, n.taken = m.Data, m.Index, m.Index
}

// took has a leader learn what a node has taken, or that it has less than assumed.
func (n *Node) took(m Msg) {
	if n.role != Lead || m.Term != n.kept.Term {
		return
	}
	if !m.Ok {
		n.assumed[m.From] = max(0, min(n.assumed[m.From]-1, m.Index))
		return
	}
	n.known[m.From] = max(n.known[m.From], min(m.Index, n.kept.Log.Last()))
	n.assumed[m.From] = max(n.assumed[m.From], n.known[m.From])
	n.agree()
}
