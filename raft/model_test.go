package raft_test

import (
	"math/rand"
	"testing"

	"daisychain/api"
	"daisychain/entry"
	"daisychain/raft"
)

// model is a node as the document's words say it.
type model struct {
	id, role, leader      int
	peers                 []int
	k                     raft.Keep
	commit, taken         int
	votes, assumed, known map[int]int
}

func modelOf(id int, peers []int, k raft.Keep) *model {
	return &model{id: id, peers: peers, leader: -1, k: k, commit: k.Log.Base(), taken: k.Log.Base()}
}

func (m *model) toAll(make func(to int) raft.Msg) []raft.Msg {
	var l []raft.Msg
	for _, p := range m.peers {
		if p != m.id {
			x := make(p)
			x.From, x.To, x.Term = m.id, p, m.k.Term
			l = append(l, x)
		}
	}
	return l
}

func (m *model) majority(many int) bool { return 2*many > len(m.peers) }

func (m *model) timeout() []raft.Msg {
	if m.role == raft.Lead {
		return nil
	}
	m.k.Term++
	m.k.Voted, m.role, m.leader = m.id, raft.Stand, -1
	m.votes = map[int]int{m.id: 1}
	if m.majority(1) {
		return m.begin()
	}
	last := m.k.Log.Last()
	term, _ := m.k.Log.Term(last)
	return m.toAll(func(int) raft.Msg { return raft.Msg{Kind: raft.Ask, Index: last, LogTerm: term} })
}

func (m *model) begin() []raft.Msg {
	m.role, m.leader = raft.Lead, m.id
	m.assumed, m.known = map[int]int{}, map[int]int{}
	for _, p := range m.peers {
		m.assumed[p] = m.k.Log.Last()
	}
	_, l, _ := m.propose("")
	return l
}

func (m *model) beat() []raft.Msg {
	if m.role != raft.Lead {
		return nil
	}
	return m.toAll(func(to int) raft.Msg {
		base := m.k.Log.Base()
		if m.assumed[to] < base {
			term, _ := m.k.Log.Term(base)
			return raft.Msg{Kind: raft.Whole, Index: base, LogTerm: term, Commit: m.commit, Data: m.k.Data}
		}
		x := raft.Msg{Kind: raft.Put, Index: m.assumed[to], Commit: m.commit}
		x.LogTerm, _ = m.k.Log.Term(x.Index)
		for k := x.Index + 1; k <= min(x.Index+8, m.k.Log.Last()); k++ {
			e, _ := m.k.Log.Get(k)
			x.L = append(x.L, e)
		}
		return x
	})
}

func (m *model) propose(data string) (int, []raft.Msg, api.Errno) {
	if m.role != raft.Lead {
		return 0, nil, api.ErrTurn
	}
	k := m.k.Log.Add(entry.Entry{Term: m.k.Term, Data: data})
	m.check()
	return k, m.beat(), api.OK
}

// check looks at each entry that is not committed, whether it is of the node's term, and a majority has it.
func (m *model) check() {
	for k := m.commit + 1; k <= m.k.Log.Last(); k++ {
		many := 1
		for _, p := range m.peers {
			if p != m.id && m.known[p] >= k {
				many++
			}
		}
		if term, _ := m.k.Log.Term(k); term == m.k.Term && m.majority(many) {
			m.commit = k
		}
	}
}

func (m *model) compact(k int, data string) api.Errno {
	if k < m.k.Log.Base() || k > m.taken || k > m.k.Log.Last() {
		return api.ErrArg
	}
	m.k.Log.Pass(k)
	m.k.Data = data
	return api.OK
}

// takes is what Taken returns. Where a leader that is none had entries removed that were committed, those that are there
// are returned.
func (m *model) takes() (int, []string) {
	from, l := m.taken+1, []string(nil)
	for k := from; k <= m.commit && k <= m.k.Log.Last(); k++ {
		e, _ := m.k.Log.Get(k)
		l = append(l, e.Data)
		m.taken = k
	}
	return from, l
}

func (m *model) receive(x raft.Msg) []raft.Msg {
	other := false
	for _, p := range m.peers {
		other = other || p == x.From && p != m.id
	}
	if x.To != m.id || !other {
		return nil
	}
	if x.Term > m.k.Term {
		m.k.Term, m.k.Voted, m.role, m.leader = x.Term, -1, raft.Follow, -1
	}
	back := raft.Msg{From: m.id, To: x.From, Term: m.k.Term}
	own := x.Term == m.k.Term
	switch x.Kind {
	case raft.Ask:
		back.Kind = raft.Vote
		if own && (m.k.Voted == -1 || m.k.Voted == x.From) && m.k.Log.Newer(x.Index, x.LogTerm) {
			back.Ok, m.k.Voted = true, x.From
		}
		return []raft.Msg{back}
	case raft.Vote:
		if m.role == raft.Stand && x.Ok && own {
			m.votes[x.From] = 1
			if m.majority(len(m.votes)) {
				return m.begin()
			}
		}
	case raft.Put, raft.Whole:
		back.Kind = raft.Took
		if !own {
			return []raft.Msg{back}
		}
		m.role, m.leader = raft.Follow, x.From
		if x.Kind == raft.Put {
			back.Index, back.Ok = m.put(x)
		} else {
			m.whole(x)
			back.Index, back.Ok = x.Index, true
		}
		return []raft.Msg{back}
	case raft.Took:
		if m.role == raft.Lead && own {
			m.took(x)
		}
	}
	return nil
}

func (m *model) put(x raft.Msg) (int, bool) {
	k, ok := m.k.Log.Merge(x.Index, x.LogTerm, x.L)
	if !ok {
		return m.k.Log.Last(), false
	}
	if least := min(x.Commit, k); least > m.commit {
		m.commit = least
	}
	return k, true
}

func (m *model) whole(x raft.Msg) {
	if x.Index <= m.commit {
		return
	}
	if e, is := m.k.Log.Get(x.Index); is && e.Term == x.LogTerm {
		m.k.Log.Pass(x.Index)
	} else {
		m.k.Log = entry.New(x.Index, x.LogTerm)
	}
	m.k.Data, m.commit, m.taken = x.Data, x.Index, x.Index
}

func (m *model) took(x raft.Msg) {
	p := x.From
	if !x.Ok {
		m.assumed[p]--
		if x.Index < m.assumed[p] {
			m.assumed[p] = x.Index
		}
		if m.assumed[p] < 0 {
			m.assumed[p] = 0
		}
		return
	}
	if k := min(x.Index, m.k.Log.Last()); k > m.known[p] {
		m.known[p] = k
	}
	if m.assumed[p] < m.known[p] {
		m.assumed[p] = m.known[p]
	}
	m.check()
}

// message is one that numbers tell: mostly one that might come, of a term and an index near the node's own.
func (m *model) message(a, b, c, d, e int) raft.Msg {
	log := m.k.Log
	x := raft.Msg{
		Kind: a%6 - a/6%40/39, From: m.peers[b%len(m.peers)], To: m.id, Term: m.k.Term + []int{0, 0, 0, 0, 0, -1, 1, 2}[b/8%8],
		Index: log.Base() - 1 + c%(log.Last()-log.Base()+4), Commit: m.commit - 2 + d%6, Ok: d/8%4 != 0, Data: data(c, d),
	}
	x.LogTerm, _ = log.Term(x.Index)
	if e%8 == 7 {
		x.LogTerm += e/8%3 - 1
	}
	if b/64 == 3 {
		x.To, x.From = []int{m.id, m.id, 3, -1}[d%4], []int{m.id, 3, 100, x.From}[e%4]
	}
	term := x.LogTerm
	for k := x.Index + 1; k <= x.Index+e/32; k++ {
		if have, is := log.Get(k); is && e/8%4 != 3 {
			term = have.Term
		} else if (c+k)%3 == 0 && term < m.k.Term {
			term++
		}
		x.L = append(x.L, after(k-1, term)...)
	}
	return x
}

// pair is a node and its model.
type pair struct {
	n *raft.Node
	m *model
}

func pairOf(t testing.TB, peers []int, base, term int) *pair {
	log := entry.New(base, min(base, 1))
	n := node(t, peers[len(peers)/2], peers, kept(term, log, "x"))
	return &pair{n, modelOf(peers[len(peers)/2], peers, n.Keep())}
}

// play does to both what a number says, with others.
func (p *pair) play(t testing.TB, what, a, b, c, d, e int) {
	t.Helper()
	switch what % 16 {
	default:
		x := p.m.message(a, b, c, d, e)
		got := p.n.Receive(x)
		wantMsgs(t, got, p.m.receive(x)...)
	case 0:
		wantMsgs(t, p.n.Timeout(), p.m.timeout()...)
	case 1:
		p.play(t, 0, 0, 0, 0, 0, 0)
		for _, from := range p.m.peers {
			x := raft.Msg{Kind: raft.Vote, From: from, To: p.m.id, Term: p.m.k.Term, Ok: true}
			wantMsgs(t, p.n.Receive(x), p.m.receive(x)...)
		}
	case 2, 3:
		k, l, err := p.n.Propose(data(a, b))
		want, msgs, wantErr := p.m.propose(data(a, b))
		if k != want || err != wantErr {
			t.Fatalf("Propose: %d, %v, want %d, %v", k, err, want, wantErr)
		}
		wantMsgs(t, l, msgs...)
	case 4:
		wantMsgs(t, p.n.Beat(), p.m.beat()...)
	case 5:
		from, l := p.m.takes()
		wantTaken(t, p.n, from, l...)
	case 6:
		k := p.m.k.Log.Base() - 1 + a%(p.m.k.Log.Last()-p.m.k.Log.Base()+3)
		if got, want := p.n.Compact(k, data(b, c)), p.m.compact(k, data(b, c)); got != want {
			t.Fatalf("Compact up to %d: %v, want %v", k, got, want)
		}
	case 7:
		if a%8 == 0 {
			p.n, p.m = node(t, p.m.id, p.m.peers, p.n.Keep()), modelOf(p.m.id, p.m.peers, p.m.k)
		}
	}
	wantNode(t, p.n, p.m.role, p.m.leader, p.m.commit)
	wantKeep(t, p.n, p.m.k)
}

func TestP12LikeModel(t *testing.T) {
	all := [][]int{{7}, three(), five()}
	for seed := range 600 {
		r := rand.New(rand.NewSource(int64(seed)))
		p := pairOf(t, all[r.Intn(3)], r.Intn(3), r.Intn(3))
		for range 200 {
			p.play(t, r.Intn(16), r.Intn(256), r.Intn(256), r.Intn(256), r.Intn(256), r.Intn(256))
		}
	}
}

func FuzzP12LikeModel(f *testing.F) {
	f.Add([]byte{1, 0, 1, 0, 0, 0, 0, 0, 2, 1, 2, 0, 0, 0, 9, 3, 0, 2, 9, 0, 5, 0, 0, 0, 0, 0, 6, 2, 1, 1, 0, 0})
	f.Add([]byte{2, 1, 9, 2, 0, 1, 4, 200, 9, 2, 8, 3, 5, 99, 9, 4, 0, 4, 8, 0, 0, 0, 0, 0, 0, 0, 9, 1, 0, 0, 8, 0})
	f.Fuzz(func(t *testing.T, b []byte) {
		if len(b) < 2 {
			return
		}
		p := pairOf(t, [][]int{{7}, three(), five()}[b[0]%3], int(b[1]%4), int(b[1]/4%4))
		for b = b[2:]; len(b) >= 6; b = b[6:] {
			p.play(t, int(b[0]), int(b[1]), int(b[2]), int(b[3]), int(b[4]), int(b[5]))
		}
	})
}

// Beyond the numbers for which anything is promised, each call still ends, and none panics.
func TestHugeNumbers(t *testing.T) {
	huge := []int{least, -1, 0, 1, most - 1, most}
	r := rand.New(rand.NewSource(1))
	any := func() int { return huge[r.Intn(len(huge))] }
	for range 300 {
		n := node(t, 4, three(), raft.Keep{Term: max(any(), 0), Voted: max(any(), -1), Log: entry.New(any(), any())})
		for range 40 {
			x := raft.Msg{Kind: r.Intn(7) - 1, From: 1 + 6*r.Intn(2), To: 4, Term: n.Keep().Term, Index: any(), LogTerm: any(), Commit: any(), Ok: r.Intn(4) != 0}
			if r.Intn(8) == 0 {
				x.Term = any()
			}
			for range r.Intn(3) {
				x.L = append(x.L, entry.Entry{Term: any()})
			}
			n.Receive(x)
			n.Beat()
			n.Propose("x")
			n.Taken()
			n.Compact(any(), "y")
			if r.Intn(4) == 0 {
				n.Timeout()
			}
		}
	}
}
