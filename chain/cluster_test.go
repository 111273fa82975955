package chain_test

import (
	"math/rand"
	"slices"
	"strconv"
	"testing"

	"daisychain/api"
	"daisychain/chain"
	"daisychain/master"
)

// cluster is replicas of a chain, their messages in transit, the configurations that their table had, what the longest
// committed row was so far, and what became fresh of each one since its row began.
type cluster struct {
	t         *testing.T
	table     *master.Table
	configs   []master.Config
	wishes    []master.Order
	replicas  []*chain.Replica
	adopted   []int
	fresh     [][]string
	transit   []chain.Msg
	committed []string
	ordered   int
	count     map[string]int
}

func clusterOf(t *testing.T, data, members int) *cluster {
	c := &cluster{t: t, table: master.New(), adopted: make([]int, data), fresh: make([][]string, data), count: map[string]int{}}
	for id := range data {
		c.replicas = append(c.replicas, chain.New(id, chain.Keep{}))
	}
	o := master.Order{Kind: master.Init}
	for id := range members {
		o.Members = append(o.Members, id)
	}
	c.do(o)
	return c
}

// newest is the newest configuration.
func (c *cluster) newest() master.Config { return c.configs[len(c.configs)-1] }

// do has the table do an order.
func (c *cluster) do(o master.Order) {
	if e := c.table.Do(o); e != api.OK {
		c.count["refused"]++
		return
	}
	c.count[[]string{"init", "drop", "join", "full"}[o.Kind]]++
	config, _ := c.table.Config(0)
	c.configs = append(c.configs, config)
	c.check()
}

// begins tells whether a row begins with another one.
func begins(row, with []string) bool {
	return len(row) >= len(with) && slices.Equal(row[:len(with)], with)
}

// check checks what P14.5 says of all replicas.
func (c *cluster) check() {
	c.t.Helper()
	for id, r := range c.replicas {
		row := r.Row()[:r.Commit()]
		if !begins(row, c.committed) && !begins(c.committed, row) {
			c.t.Fatalf("replica %d committed %q, others %q", id, row, c.committed)
		}
		if len(row) > len(c.committed) {
			c.committed = row
		}
	}
	newest := c.newest()
	for i, id := range newest.Members {
		if r := c.replicas[id]; !(newest.Joining && i == len(newest.Members)-1) && !begins(r.Row(), c.committed) {
			c.t.Fatalf("replica %d, full in %v, has %q; committed is %q", id, newest, r.Row(), c.committed)
		}
	}
}

// sent has the messages of a replica be in transit, and checks them, and all replicas.
func (c *cluster) sent(id int, l []chain.Msg) {
	c.t.Helper()
	r := c.replicas[id]
	config := r.Keep().Config
	for _, m := range l {
		if m.From != id || m.Epoch != r.Epoch() || !r.Live() || m.To < 0 ||
			m.Kind == chain.Pass && m.To != config.Next(id) || m.Kind == chain.Ack && m.To != config.Before(id) {
			c.t.Fatalf("replica %d, in %v, sent %+v", id, config, m)
		}
	}
	c.transit = append(c.transit, l...)
	if r.Tail() && r.Commit() != len(r.Row()) {
		c.t.Fatalf("the tail %d committed %d of %d", id, r.Commit(), len(r.Row()))
	}
	c.check()
}

// adopt has a replica adopt a configuration; only those later than what it adopted before are of account.
func (c *cluster) adopt(id, i int) {
	c.t.Helper()
	r := c.replicas[id]
	c.take(id)
	had := len(r.Row())
	l := r.Adopt(c.configs[i])
	if len(r.Row()) < had {
		c.count["discarded"]++
		c.fresh[id] = nil
	}
	c.adopted[id] = max(c.adopted[id], i)
	c.sent(id, l)
}

// take checks that what was fresh, one after the other, is what is committed.
func (c *cluster) take(id int) {
	c.t.Helper()
	r := c.replicas[id]
	from, l := r.Fresh()
	if from != len(c.fresh[id])+1 {
		c.t.Fatalf("Fresh of %d from %d on, want %d", id, from, len(c.fresh[id])+1)
	}
	c.fresh[id] = append(c.fresh[id], l...)
	if !slices.Equal(c.fresh[id], r.Row()[:r.Commit()]) {
		c.t.Fatalf("fresh of %d: %q, committed %q", id, c.fresh[id], r.Row()[:r.Commit()])
	}
}

// order has a replica order something new.
func (c *cluster) order(id int) {
	c.t.Helper()
	r := c.replicas[id]
	head := r.Head()
	k, l, e := r.Order("x" + strconv.Itoa(c.ordered))
	if head != (e == api.OK) || head && k != len(r.Row()) {
		c.t.Fatalf("Order of %d: %d, %v", id, k, e)
	}
	if e == api.OK {
		c.ordered++
	}
	c.sent(id, l)
}

// wish has a replica, if it is complete, wish to be declared full.
func (c *cluster) wish(id int) {
	if r := c.replicas[id]; r.Complete() {
		c.count["complete"]++
		c.wishes = append(c.wishes, master.Order{Kind: master.Full, Epoch: r.Epoch(), Node: id})
	}
}

// restart has a replica continue with what it keeps.
func (c *cluster) restart(id int) {
	c.replicas[id], c.fresh[id] = chain.New(id, c.replicas[id].Keep()), nil
	c.count["anew"]++
	c.sent(id, nil)
}

// arrive has a message reach its replica.
func (c *cluster) arrive(m chain.Msg) {
	c.t.Helper()
	c.sent(m.To, c.replicas[m.To].Receive(m))
}

// remove takes a message out of those in transit.
func (c *cluster) remove(i int) chain.Msg {
	m := c.transit[i]
	c.transit = slices.Delete(c.transit, i, i+1)
	return m
}

// step has something happen, by chance; what is sent is lost with a chance of lossy in 16.
func (c *cluster) step(r *rand.Rand, lossy int) {
	c.t.Helper()
	id := r.Intn(len(c.replicas))
	switch x := r.Intn(128); {
	case x < 72:
		c.letter(r, lossy)
	case x < 76:
		c.order(id)
	case x < 95:
		c.sent(id, c.replicas[id].Again())
		c.wish(id)
	case x < 112:
		c.adopt(id, c.adopted[id]+r.Intn(len(c.configs)-c.adopted[id]))
	case x < 114:
		c.adopt(id, r.Intn(c.adopted[id]+1))
	case x < 118:
		c.take(id)
	case x < 119:
		c.restart(id)
	case x < 124 && len(c.wishes) > 0:
		c.do(c.wishes[len(c.wishes)-1-r.Intn(min(2, len(c.wishes)))])
	case x < 125:
		c.do(master.Order{Kind: master.Drop + r.Intn(2), Epoch: c.newest().Epoch, Node: id})
	}
}

// letter has a message in transit arrive, once or twice, or be lost.
func (c *cluster) letter(r *rand.Rand, lossy int) {
	c.t.Helper()
	if len(c.transit) == 0 {
		return
	}
	i := r.Intn(len(c.transit))
	switch x := r.Intn(16); {
	case x < lossy:
		c.remove(i)
	case x < lossy+2:
		c.arrive(c.transit[i])
	default:
		c.arrive(c.remove(i))
	}
}

// settle has all adopt the newest configuration, and everything arrive, until all members have everything.
func (c *cluster) settle() {
	c.t.Helper()
	c.transit = nil
	for i := range 8 + len(c.replicas[c.newest().Members[0]].Row())/8 {
		for id := range c.replicas {
			c.adopt(id, len(c.configs)-1)
			c.wish(id)
		}
		if i < 3 {
			c.order(c.newest().Members[0])
		}
		for len(c.transit) > 0 {
			c.arrive(c.remove(0))
		}
	}
	for _, o := range c.wishes {
		c.do(o)
	}
	if c.newest().Joining {
		c.t.Fatalf("%v is not full", c.newest())
	}
	for _, id := range c.newest().Members {
		r := c.replicas[id]
		if !slices.Equal(r.Row(), c.committed) || r.Commit() != len(c.committed) {
			c.t.Fatalf("replica %d has %d, and committed %d, of %d", id, len(r.Row()), r.Commit(), len(c.committed))
		}
	}
}

// Whatever happens to messages, replicas and configurations, P14.5 holds; and once messages arrive, all members commit all.
func TestP145(t *testing.T) {
	count := map[string]int{}
	committed := 0
	for seed := range 1000 {
		r := rand.New(rand.NewSource(int64(seed)))
		data := 1 + r.Intn(5)
		c := clusterOf(t, data, 1+r.Intn(data))
		c.count = count
		for range 4 {
			lossy := r.Intn(6)
			for range 300 {
				c.step(r, lossy)
			}
			if r.Intn(2) == 0 {
				c.settle()
			}
		}
		c.settle()
		committed += len(c.committed)
	}
	for _, name := range []string{"drop", "join", "full", "refused", "anew", "discarded"} {
		if count[name] < 500 {
			t.Errorf("%s: %d", name, count[name])
		}
	}
	if committed < 1000*10 {
		t.Error("committed:", committed)
	}
}

// What a head orders that was dropped, and does not know it, is never committed.
func TestP145DroppedHead(t *testing.T) {
	c := clusterOf(t, 3, 3)
	c.settle()
	before := len(c.committed)
	c.do(master.Order{Kind: master.Drop, Epoch: 1, Node: 0})
	c.adopt(1, 1)
	c.adopt(2, 1)
	for range 5 {
		c.order(0)
	}
	for len(c.transit) > 0 {
		c.arrive(c.remove(0))
	}
	if len(c.committed) != before || !c.replicas[0].Head() || !c.replicas[1].Head() {
		t.Fatal("committed", len(c.committed), "before", before)
	}
	c.settle()
	c.do(master.Order{Kind: master.Join, Epoch: 2, Node: 0})
	c.settle()
	for i := before; i < before+5; i++ {
		if slices.Contains(c.committed, "x"+strconv.Itoa(i)) {
			t.Errorf("x%d is committed: %q", i, c.committed)
		}
	}
}

// A new member that is dropped, and joins again, is complete only when it has everything anew.
func TestP145JoinsAgain(t *testing.T) {
	c := clusterOf(t, 3, 2)
	c.settle()
	c.do(master.Order{Kind: master.Join, Epoch: 1, Node: 2})
	c.adopt(2, 1)
	c.adopt(1, 1)
	for len(c.transit) > 0 {
		c.arrive(c.remove(0))
	}
	if !c.replicas[2].Complete() {
		t.Fatal("not complete")
	}
	c.wish(2)
	c.do(master.Order{Kind: master.Drop, Epoch: 2, Node: 2})
	c.do(master.Order{Kind: master.Join, Epoch: 3, Node: 2})
	c.do(c.wishes[0])
	c.adopt(2, 3)
	if !c.newest().Joining || c.replicas[2].Complete() || len(c.replicas[2].Row()) > 0 {
		t.Fatal("full by what it had before:", c.newest(), c.replicas[2].Row())
	}
	c.wishes = nil
	c.settle()
}
