package chain_test

import (
	"math/rand"
	"slices"
	"testing"

	"daisychain/api"
	"daisychain/chain"
	"daisychain/master"
)

// model is a replica as the document's words say it. Its neighbours are found among the members each time.
type model struct {
	id            int
	c             master.Config
	row           []string
	live, heard   bool
	commit, told  int
	acknowledged  int
	base, arrived int
}

// beside is the member so many places behind it, and whether there is one.
func (m *model) beside(places int) (int, bool) {
	for i, x := range m.c.Members {
		if x == m.id && i+places >= 0 && i+places < len(m.c.Members) {
			return m.c.Members[i+places], true
		}
	}
	return 0, false
}

func (m *model) member() bool {
	_, is := m.beside(0)
	return is
}

func (m *model) head() bool {
	_, is := m.beside(-1)
	return m.live && !is
}

func (m *model) tail() bool {
	_, is := m.beside(1)
	return m.live && !is
}

func (m *model) adopt(c master.Config) []chain.Msg {
	if c.Epoch < m.c.Epoch {
		return nil
	}
	same := m.live && c.Epoch == m.c.Epoch
	if c.Epoch == m.c.Epoch {
		if m.member() {
			m.live = true
		}
		if !c.Joining {
			m.c.Joining = false
		}
	} else {
		m.c = master.Config{Epoch: c.Epoch, Members: slices.Clone(c.Members), Joining: c.Joining}
		if _, next := m.beside(1); m.member() && !next && c.Joining {
			m.row, m.commit, m.told = nil, 0, 0
		}
		m.live = m.member()
	}
	if m.tail() {
		m.commit = len(m.row)
	}
	if !m.live {
		return nil
	}
	if !same {
		m.acknowledged, m.base, m.heard, m.arrived = 0, len(m.row), false, 0
	}
	return m.again()
}

func (m *model) pass(index int) chain.Msg {
	next, _ := m.beside(1)
	x := chain.Msg{Kind: chain.Pass, From: m.id, To: next, Epoch: m.c.Epoch, Index: index, Base: m.base}
	if index < len(m.row) {
		x.Has, x.Cmd = true, m.row[index]
	}
	return x
}

func (m *model) again() []chain.Msg {
	if _, next := m.beside(1); !m.live || !next {
		return nil
	}
	l := []chain.Msg{m.pass(m.acknowledged)}
	for k := m.acknowledged + 1; k < len(m.row) && len(l) < 8; k++ {
		l = append(l, m.pass(k))
	}
	return l
}

func (m *model) order(cmd string) (int, []chain.Msg, api.Errno) {
	if !m.head() {
		return 0, nil, api.ErrTurn
	}
	l := m.put(cmd)
	return len(m.row), l, api.OK
}

func (m *model) put(cmd string) []chain.Msg {
	m.row = append(slices.Clone(m.row), cmd)
	if m.tail() {
		m.commit++
		return nil
	}
	return []chain.Msg{m.pass(len(m.row) - 1)}
}

func (m *model) receive(x chain.Msg) []chain.Msg {
	if !m.live || x.To != m.id || x.Epoch != m.c.Epoch {
		return nil
	}
	before, first := m.beside(-1)
	next, last := m.beside(1)
	back := chain.Msg{Kind: chain.Ack, From: m.id, To: before, Epoch: m.c.Epoch}
	if x.Kind == chain.Pass && first && x.From == before {
		if !m.heard || x.Base > m.arrived {
			m.arrived = x.Base
		}
		m.heard = true
		var l []chain.Msg
		if x.Has && x.Index == len(m.row) {
			l = m.put(x.Cmd)
		}
		back.Index = m.commit
		return append(l, back)
	}
	if x.Kind != chain.Ack || !last || x.From != next {
		return nil
	}
	index := x.Index
	if index > len(m.row) {
		index = len(m.row)
	}
	if index > m.acknowledged {
		m.acknowledged = index
		if index > m.commit {
			m.commit, back.Index = index, index
			if first {
				return []chain.Msg{back}
			}
		}
	}
	return nil
}

func (m *model) complete() bool {
	return m.tail() && m.c.Joining && m.heard && len(m.row) >= m.arrived
}

func (m *model) fresh() (int, []string) {
	from, l := m.told+1, m.row[m.told:m.commit]
	m.told = m.commit
	return from, l
}

// pair is a replica and its model, and how often what happened.
type pair struct {
	r     *chain.Replica
	m     *model
	count map[string]int
}

func pairOf(id int, c master.Config, row []string) *pair {
	return &pair{restarted(id, c, row...), &model{id: id, c: c, row: row}, map[string]int{}}
}

// config is one that numbers tell: of the replica's own epoch, or of one near it. The members are those of its own one in
// that epoch, mostly.
func (p *pair) config(a, b, c int) master.Config {
	x := master.Config{Epoch: p.m.c.Epoch + []int{0, 0, 0, 1, 1, 1, 2, -1}[a%8], Joining: b%2 == 0}
	if x.Epoch == p.m.c.Epoch && c%16 != 15 {
		x.Members = p.m.c.Members
		return x
	}
	for i := range b / 2 % 5 {
		x.Members = append(x.Members, (c+i*3)%5)
	}
	return x
}

// message is one that numbers tell: mostly one that might come.
func (p *pair) message(a, b, c, d int) chain.Msg {
	x := chain.Msg{Kind: a % 2, To: p.m.id, Epoch: p.m.c.Epoch, Index: len(p.m.row), Base: c % 9, Has: d%8 != 0, Cmd: "m" + string(rune('a'+d%26))}
	if x.From, _ = p.m.beside(-1); x.Kind == chain.Ack {
		x.From, _ = p.m.beside(1)
		x.Index = p.m.commit + b%4 - 1
	}
	switch a / 2 % 16 {
	case 0:
		x.Index = b%12 - 2
	case 1:
		x.From = b%7 - 1
	case 2:
		x.Epoch += b%3 - 1
	case 3:
		x.To = b%7 - 1
	case 4:
		x.Kind = b%5 - 2
	case 5:
		x.Base, x.Index = []int{least, -1, most}[b%3], []int{least, -1, most}[c%3]
	}
	return x
}

// play does to both what a number says, with others.
func (p *pair) play(t testing.TB, what, a, b, c, d int) {
	t.Helper()
	var name string
	var got, want []chain.Msg
	switch what % 16 {
	default:
		x := p.message(a, b, c, d)
		name, got, want = "receive", p.r.Receive(x), p.m.receive(x)
	case 0, 1:
		x := p.config(a, b, c)
		name, got, want = "adopt", p.r.Adopt(x), p.m.adopt(x)
	case 2, 3, 4:
		k, l, e := p.r.Order("o" + string(rune('a'+a%26)))
		wantK, wantL, wantE := p.m.order("o" + string(rune('a'+a%26)))
		if k != wantK || e != wantE {
			t.Fatalf("Order: %d, %v, want %d, %v", k, e, wantK, wantE)
		}
		name, got, want = "order", l, wantL
	case 5:
		name, got, want = "again", p.r.Again(), p.m.again()
	case 6:
		from, l := p.m.fresh()
		wantFresh(t, p.r, from, l...)
		name = "fresh"
	case 7:
		name = "anew"
		if a%8 == 0 {
			p.r = chain.New(p.m.id, p.r.Keep())
			p.m = &model{id: p.m.id, c: p.m.c, row: p.m.row}
		}
	}
	wantMsgs(t, got, want...)
	p.want(t)
	p.counted(name, got)
}

// want compares all that can be seen of both.
func (p *pair) want(t testing.TB) {
	t.Helper()
	m := p.m
	wantKeep(t, p.r, m.c, m.row...)
	wantIs(t, p.r, m.live, m.head(), m.tail(), m.commit)
	wantComplete(t, p.r, m.complete())
	wantMsgs(t, p.r.Again(), m.again()...)
}

func (p *pair) counted(name string, l []chain.Msg) {
	for _, x := range l {
		name += []string{" pass", " ack"}[x.Kind]
	}
	p.count[name]++
	if p.m.complete() {
		p.count["complete"]++
	}
}

func TestP14LikeModel(t *testing.T) {
	count := map[string]int{}
	for seed := range 600 {
		r := rand.New(rand.NewSource(int64(seed)))
		p := pairOf(r.Intn(5), master.Config{Epoch: r.Intn(2), Joining: r.Intn(2) == 0}, upTo(r.Intn(3)*r.Intn(8)))
		p.count = count
		for range 150 {
			p.play(t, r.Intn(16), r.Intn(256), r.Intn(256), r.Intn(256), r.Intn(256))
		}
	}
	for _, name := range []string{"receive", "receive ack", "receive pass ack", "adopt", "adopt pass", "adopt pass pass pass",
		"order", "order pass", "again", "again pass", "again pass pass pass pass pass pass pass pass", "fresh", "anew", "complete"} {
		if count[name] < 100 {
			t.Errorf("%s: %d", name, count[name])
		}
	}
}

func FuzzP14LikeModel(f *testing.F) {
	f.Add([]byte{1, 1, 3, 4, 2, 1, 0, 2, 1, 0, 0, 0, 9, 1, 2, 3, 4, 5, 0, 0, 0, 0})
	f.Add([]byte{2, 9, 0, 3, 5, 0, 9, 9, 32, 0, 0, 1, 8, 33, 2, 0, 1, 6, 0, 0, 0, 0, 7, 0, 0, 0, 0})
	f.Fuzz(func(t *testing.T, b []byte) {
		if len(b) < 2 {
			return
		}
		p := pairOf(int(b[0]%5), master.Config{Epoch: int(b[0] / 5 % 3)}, upTo(int(b[1]%20)))
		for b = b[2:]; len(b) >= 5; b = b[5:] {
			p.play(t, int(b[0]), int(b[1]), int(b[2]), int(b[3]), int(b[4]))
		}
	})
}

// Whatever the numbers and the members are, also such as no table has, each call ends, and none panics.
func TestHugeNumbers(t *testing.T) {
	huge := []int{least, -1, 0, 1, 2, most - 1, most}
	r := rand.New(rand.NewSource(1))
	any := func() int { return huge[r.Intn(len(huge))] }
	config := func() master.Config {
		c := master.Config{Epoch: any(), Joining: r.Intn(2) == 0}
		for range r.Intn(5) {
			c.Members = append(c.Members, any())
		}
		return c
	}
	for range 2000 {
		k := chain.Keep{Config: config(), Row: upTo(r.Intn(12))}
		x := chain.New(any(), k)
		for range 20 {
			epoch := x.Epoch()
			if r.Intn(8) == 0 {
				epoch = any()
			}
			if r.Intn(4) == 0 {
				x.Adopt(config())
			}
			x.Receive(chain.Msg{Kind: r.Intn(4) - 1, From: any(), To: any(), Epoch: epoch, Index: any(), Base: any(), Has: r.Intn(2) == 0})
			x.Order("x")
			x.Again()
			x.Fresh()
			if commit := x.Commit(); commit < 0 || commit > len(x.Row()) || x.Complete() && !x.Tail() {
				t.Fatalf("Commit %d of %d", commit, len(x.Row()))
			}
		}
	}
}
