package raft

import (
	"slices"

	"daisychain/api"
	"daisychain/entry"
)

// mostEntries is how many entries a Put has at most.
const mostEntries = 8

// Timeout has it stand. One that is alone leads with its own vote, and has nobody to ask.
func (n *Node) Timeout() []Msg {
	if n.role == Lead {
		return nil
	}
	n.enter(n.kept.Term + 1)
	n.role, n.kept.Voted = Stand, n.id
	n.votes = map[int]struct{}{}
	n.count(n.id)
	return n.each(n.asks)
}

// Beat sends what a leader has.
func (n *Node) Beat() []Msg {
	if n.role != Lead {
		return nil
	}
	return n.each(n.has)
}

// Propose has an entry more.
func (n *Node) Propose(data string) (int, []Msg, api.Errno) {
	if n.role != Lead {
		return 0, nil, api.ErrTurn
	}
	l := n.add(data)
	return n.kept.Log.Last(), l, api.OK
}

// each is a message for each of the others, in the order of their numbers.
func (n *Node) each(what func(to int) Msg) []Msg {
	var l []Msg
	for _, p := range n.others {
		l = append(l, what(p))
	}
	return l
}

// asks is what a candidate sends.
func (n *Node) asks(to int) Msg {
	k, term := n.last()
	return Msg{Kind: Ask, From: n.id, To: to, Term: n.kept.Term, Index: k, LogTerm: term}
}

// has is what a leader has for another node.
func (n *Node) has(to int) Msg {
	log, at := n.kept.Log, n.assumed[to]
	m := Msg{Kind: Put, From: n.id, To: to, Term: n.kept.Term, Index: at, Commit: n.commit}
	if at < log.Base() {
		m.Kind, m.Index, m.Data = Whole, log.Base(), n.kept.Data
	} else {
		m.L = log.From(at+1, mostEntries)
	}
	m.LogTerm, _ = log.Term(m.Index)
	return m
}

// count has the vote of a node count, and returns what it sends if it leads by that.
func (n *Node) count(from int) []Msg {
	n.votes[from] = struct{}{}
	if !n.most(len(n.votes)) {
		return nil
	}
	return n.lead()
}

// most tells whether so many are a majority of all nodes.
func (n *Node) most(many int) bool { return many > (len(n.others)+1)/2 }

// lead has it begin to lead. Whoever has less than it is assumed to have says so.
func (n *Node) lead() []Msg {
	n.role, n.leader, n.votes = Lead, n.id, nil
	n.assumed, n.known = map[int]int{}, map[int]int{}
	for _, p := range n.others {
		n.assumed[p] = n.kept.Log.Last()
	}
	return n.add("")
}

// add appends an entry of its term, and returns what it has for the others then.
func (n *Node) add(data string) []Msg {
	n.kept.Log.Add(entry.Entry{Term: n.kept.Term, Data: data})
	n.agree()
	return n.each(n.has)
}

// agree commits what it can. An entry of another term that a majority has taken might still be replaced by a later
// leader, so it is committed only together with one of its own term.
func (n *Node) agree() {
	for k := n.reached(); k > n.commit; k-- {
		if term, _ := n.kept.Log.Term(k); term == n.kept.Term {
			n.commit = k
			return
		}
	}
}

// reached is up to where a majority has taken its log: the middle one of all nodes, and those that have more.
func (n *Node) reached() int {
	l := []int{n.kept.Log.Last()}
	for _, p := range n.others {
		l = append(l, n.known[p])
	}
	slices.Sort(l)
	return l[len(l)/2]
}
