package raft_test

import (
	"math/rand"
	"slices"
	"strconv"
	"strings"
	"testing"

	"daisychain/api"
	"daisychain/raft"
)

// cluster is nodes of a master, their messages in transit, and what was seen of them so far.
type cluster struct {
	t        *testing.T
	peers    []int
	nodes    map[int]*raft.Node
	transit  []raft.Msg
	leads    map[int]int    // by term
	row      map[int]string // what was Taken as entry k, by anyone
	next     map[int]int    // the number that Taken of a node must begin with, if no snapshot came
	commit   map[int]int    // of a node, since it started
	proposed int
}

func clusterOf(t *testing.T, peers []int) *cluster {
	c := &cluster{t: t, peers: peers, nodes: map[int]*raft.Node{}, leads: map[int]int{}, row: map[int]string{}, next: map[int]int{}, commit: map[int]int{}}
	for _, p := range peers {
		c.start(p, fresh())
	}
	return c
}

// start has a node start with what it keeps.
func (c *cluster) start(p int, k raft.Keep) {
	c.nodes[p] = node(c.t, p, c.peers, k)
	c.commit[p] = c.nodes[p].Commit()
	c.next[p] = c.commit[p] + 1
}

// snapshot is what stands for all that was Taken up to k.
func (c *cluster) snapshot(k int) string {
	var l []string
	for i := 1; i <= k; i++ {
		l = append(l, c.row[i])
	}
	return strings.Join(l, ",")
}

// sent has messages be in transit, and checks what P12.5 says of the node that sent them.
func (c *cluster) sent(p int, l []raft.Msg) {
	c.t.Helper()
	c.transit = append(c.transit, l...)
	n := c.nodes[p]
	k := n.Keep()
	if n.Role() == raft.Lead {
		if other, is := c.leads[k.Term]; is && other != p {
			c.t.Fatalf("nodes %d and %d lead in term %d", other, p, k.Term)
		}
		c.leads[k.Term] = p
	}
	if n.Commit() < c.commit[p] || n.Commit() > k.Log.Last() || n.Commit() < k.Log.Base() {
		c.t.Fatalf("Commit of %d: %d, it was %d", p, n.Commit(), c.commit[p])
	}
	c.commit[p] = n.Commit()
	if want := c.snapshot(k.Log.Base()); k.Data != want {
		c.t.Fatalf("the snapshot of %d, up to %d: %q, want %q", p, k.Log.Base(), k.Data, want)
	}
	for _, m := range l {
		if m.From != p || m.Term != k.Term || m.To == p || len(m.L) > 8 {
			c.t.Fatalf("node %d, in term %d, sent %+v", p, k.Term, m)
		}
	}
}

// take has a node's Taken be compared with that of all others.
func (c *cluster) take(p int) {
	c.t.Helper()
	n := c.nodes[p]
	from, l := n.Taken()
	if from < c.next[p] || from > c.next[p] && from <= n.Keep().Log.Base() || from+len(l) != n.Commit()+1 {
		c.t.Fatalf("Taken of %d begins with %d, want %d, and has %d, up to %d", p, from, c.next[p], len(l), n.Commit())
	}
	c.next[p] = from + len(l)
	for i, data := range l {
		k := from + i
		if was, is := c.row[k]; is && was != data {
			c.t.Fatalf("entry %d: %q for %d, but %q for another one", k, data, p, was)
		}
		c.row[k] = data
	}
}

// arrive has a message reach its node.
func (c *cluster) arrive(m raft.Msg) {
	c.t.Helper()
	c.sent(m.To, c.nodes[m.To].Receive(m))
}

// remove takes a message out of those in transit.
func (c *cluster) remove(i int) raft.Msg {
	m := c.transit[i]
	c.transit = slices.Delete(c.transit, i, i+1)
	return m
}

// propose has a node propose something new.
func (c *cluster) propose(p int) {
	c.t.Helper()
	_, l, err := c.nodes[p].Propose("x" + strconv.Itoa(c.proposed))
	if leads := c.nodes[p].Role() == raft.Lead; leads != (err == api.OK) {
		c.t.Fatalf("Propose of %d: %v", p, err)
	}
	c.proposed++
	c.sent(p, l)
}

// compact has a node discard what it took, but for some.
func (c *cluster) compact(p, but int) {
	c.t.Helper()
	c.take(p)
	k := c.nodes[p].Commit() - but
	if base := c.nodes[p].Keep().Log.Base(); k < base {
		return
	}
	if err := c.nodes[p].Compact(k, c.snapshot(k)); err != api.OK {
		c.t.Fatalf("Compact of %d up to %d: %v", p, k, err)
	}
	c.sent(p, nil)
}

// step has something happen, by chance; what is sent is lost with a chance of lossy in 16.
func (c *cluster) step(r *rand.Rand, lossy int) {
	c.t.Helper()
	p := c.peers[r.Intn(len(c.peers))]
	switch x := r.Intn(64); {
	case x < 44 && len(c.transit) > 0:
		i := r.Intn(len(c.transit))
		switch y := r.Intn(16); {
		case y < lossy:
			c.remove(i)
		case y < lossy+2:
			c.arrive(c.transit[i])
		default:
			c.arrive(c.remove(i))
		}
	case x < 45:
		c.sent(p, c.nodes[p].Timeout())
	case x < 51:
		c.sent(p, c.nodes[p].Beat())
	case x < 57:
		c.propose(p)
	case x < 60:
		c.take(p)
	case x < 61:
		c.compact(p, r.Intn(4))
	case x < 62:
		c.start(p, c.nodes[p].Keep())
	}
}

// settle has a node of the greatest term lead, and everything arrive until all have everything.
func (c *cluster) settle(up []int) {
	c.t.Helper()
	c.transit = nil
	quiet := func() {
		for len(c.transit) > 0 {
			if m := c.remove(0); slices.Contains(up, m.To) {
				c.arrive(m)
			}
		}
	}
	lead := -1
	for i := 0; lead < 0 && i < 20*len(up); i++ {
		p := up[i%len(up)]
		c.sent(p, c.nodes[p].Timeout())
		quiet()
		for _, q := range up {
			if c.nodes[q].Role() == raft.Lead && c.nodes[q].Keep().Term == c.term(up) {
				lead = q
			}
		}
	}
	if lead < 0 {
		c.t.Fatal("none leads")
	}
	c.propose(lead)
	for range 2 + c.nodes[lead].Keep().Log.Last() {
		quiet()
		c.sent(lead, c.nodes[lead].Beat())
	}
	quiet()
	for _, p := range up {
		c.take(p)
		if n := c.nodes[p]; n.Leader() != lead || n.Commit() != c.nodes[lead].Keep().Log.Last() || n.Keep().Log.Last() != n.Commit() {
			c.t.Fatalf("node %d follows %d, with Commit %d; %d leads, with %d", p, n.Leader(), n.Commit(), lead, c.nodes[lead].Keep().Log.Last())
		}
	}
}

// term is the greatest one of these nodes.
func (c *cluster) term(up []int) int {
	term := 0
	for _, p := range up {
		term = max(term, c.nodes[p].Keep().Term)
	}
	return term
}

// Whatever happens to messages and nodes, P12.5 holds; and once messages arrive, a majority agrees on what is proposed.
func TestP125(t *testing.T) {
	entries, terms := 0, 0
	for seed := range 400 {
		r := rand.New(rand.NewSource(int64(seed)))
		c := clusterOf(t, [][]int{{3}, three(), three(), five()}[seed%4])
		for range 4 {
			lossy := r.Intn(6)
			for range 250 {
				c.step(r, lossy)
			}
			if r.Intn(2) == 0 {
				up := slices.Clone(c.peers)
				r.Shuffle(len(up), func(i, j int) { up[i], up[j] = up[j], up[i] })
				c.settle(up[:len(up)/2+1+r.Intn(len(up)/2+1)])
			}
		}
		c.settle(c.peers)
		entries += len(c.row)
		terms += len(c.leads)
	}
	if entries < 400*20 || terms < 400*5 {
		t.Error("too little happened:", entries, terms)
	}
}

// What was proposed while nothing is lost is taken by all, in the order in which it was proposed.
func TestP125Order(t *testing.T) {
	for _, peers := range [][]int{{3}, three(), five()} {
		c := clusterOf(t, peers)
		for round := range 5 {
			for range 10 {
				c.settle(peers)
			}
			for _, p := range peers {
				c.compact(p, round)
			}
		}
		var got []string
		for k := 1; k <= len(c.row); k++ {
			if c.row[k] != "" {
				got = append(got, c.row[k])
			}
		}
		if len(got) != c.proposed {
			t.Errorf("%d nodes took %d of %d", len(peers), len(got), c.proposed)
		}
		for i, data := range got {
			if data != "x"+strconv.Itoa(i) {
				t.Fatalf("entry %d: %q", i, data)
			}
		}
	}
}

// A leader that is cut off commits nothing; what it proposed is replaced by what the others agree on.
func TestP125CutOff(t *testing.T) {
	c := clusterOf(t, three())
	c.settle(three())
	old := c.leads[c.term(three())]
	var up []int
	for _, p := range three() {
		if p != old {
			up = append(up, p)
		}
	}
	before := c.nodes[old].Commit()
	for range 5 {
		c.propose(old)
	}
	c.transit = nil
	lost := c.proposed
	c.settle(up)
	if c.nodes[old].Role() != raft.Lead || c.nodes[old].Commit() != before {
		t.Fatal("the one that is cut off:", c.nodes[old].Role(), c.nodes[old].Commit())
	}
	c.settle(three())
	for k, data := range c.row {
		if i, err := strconv.Atoi(strings.TrimPrefix(data, "x")); err == nil && i >= lost-5 && i < lost {
			t.Errorf("entry %d: %q", k, data)
		}
	}
}
