package master_test

import (
	"math/rand"
	"slices"
	"strconv"
	"testing"

	"daisychain/api"
	"daisychain/master"
)

// member is a node, and whether it is full.
type member struct {
	node int
	full bool
}

// model is a table, as the document's words say it: for each shard an epoch, 0 if it has no configuration, and members.
type model [10]struct {
	epoch   int
	members []member
}

// do executes an order.
func (m *model) do(o master.Order) api.Errno {
	if o.Kind != master.Init && o.Kind != master.Drop && o.Kind != master.Join && o.Kind != master.Full {
		return api.ErrArg
	}
	if o.Shard < 0 || o.Shard > 9 {
		return api.ErrArg
	}
	epoch := m[o.Shard].epoch
	switch {
	case o.Kind == master.Init && epoch > 0:
		return api.ErrTwice
	case o.Kind == master.Init:
		return m.begin(o)
	case epoch == 0:
		return api.ErrName
	case epoch != o.Epoch:
		return api.ErrOld
	case o.Kind == master.Drop:
		return m.drop(o)
	case o.Kind == master.Join:
		return m.join(o)
	}
	l := m[o.Shard].members
	if last := l[len(l)-1]; last.node != o.Node || last.full {
		return api.ErrState
	}
	l[len(l)-1].full = true
	return api.OK
}

func (m *model) begin(o master.Order) api.Errno {
	if len(o.Members) == 0 || len(o.Members) > 7 {
		return api.ErrArg
	}
	var seen [100]bool
	var l []member
	for _, n := range o.Members {
		if n < 0 || n > 99 || seen[n] {
			return api.ErrArg
		}
		seen[n] = true
		l = append(l, member{n, true})
	}
	m[o.Shard].epoch, m[o.Shard].members = 1, l
	return api.OK
}

func (m *model) drop(o master.Order) api.Errno {
	var left []member
	is, full := false, false
	for _, x := range m[o.Shard].members {
		if x.node == o.Node {
			is = true
			continue
		}
		left = append(left, x)
		full = full || x.full
	}
	if !is {
		return api.ErrName
	}
	if !full {
		return api.ErrState
	}
	m[o.Shard].epoch++
	m[o.Shard].members = left
	return api.OK
}

func (m *model) join(o master.Order) api.Errno {
	if o.Node < 0 || o.Node > 99 {
		return api.ErrArg
	}
	l := m[o.Shard].members
	isNode := func(x member) bool { return x.node == o.Node }
	isNew := func(x member) bool { return !x.full }
	if slices.ContainsFunc(l, isNode) {
		return api.ErrTwice
	}
	if slices.ContainsFunc(l, isNew) || len(l) == 7 {
		return api.ErrState
	}
	m[o.Shard].epoch++
	m[o.Shard].members = append(l, member{o.Node, false})
	return api.OK
}

// lines are those of its text.
func (m *model) lines() []string {
	var lines []string
	for shard, c := range m {
		if c.epoch == 0 {
			continue
		}
		s, joining := "", "0"
		for _, x := range c.members {
			s += " " + strconv.Itoa(x.node)
			if !x.full {
				joining = "1"
			}
		}
		lines = append(lines, strconv.Itoa(shard)+" "+strconv.Itoa(c.epoch)+" "+joining+s)
	}
	return lines
}

// guess is an order that numbers tell: mostly one that might be executed, of a shard's epoch, or of one near it.
func (m *model) guess(what, shard, epoch, node, more int) master.Order {
	o := master.Order{Kind: what % 4, Shard: shard % 3, Node: node % 12}
	if what/4%8 == 7 {
		o.Shard, o.Kind = shard%12-1, what/32%6-1
	}
	if o.Shard >= 0 && o.Shard <= 9 {
		o.Epoch = m[o.Shard].epoch + []int{0, 0, 0, 0, 0, 0, -1, 1}[epoch%8]
		switch l := m[o.Shard].members; {
		case len(l) > 0 && o.Kind == master.Full && node%4 > 0:
			o.Node = l[len(l)-1].node
		case len(l) > 0 && o.Kind == master.Drop && node%4 > 1:
			o.Node = l[node/4%len(l)].node
		}
	}
	if epoch/8%16 == 15 {
		o.Node = []int{-1, 99, 100, least, most}[node%5]
	}
	for i := range []int{0, 1, 1, 2, 3, 4, 5, 7, 8}[more%9] {
		o.Members = append(o.Members, (node+i*(1+more/9%13))%102-more/128)
	}
	return o
}

// pair is a table and its model.
type pair struct {
	x *master.Table
	m *model
}

// play has both execute an order, and checks that the consequences hold between the configurations before and after it.
// Sometimes the table goes on as what is read from its text, and the order as what is read from its own.
func (p *pair) play(t testing.TB, o master.Order, again bool) api.Errno {
	t.Helper()
	if again {
		p.again(t, &o)
	}
	old, was := p.x.Config(o.Shard)
	want := p.m.do(o)
	wantDo(t, p.x, o, want, p.m.lines()...)
	c, is := p.x.Config(o.Shard)
	if is {
		wantFull(t, c)
	}
	switch {
	case want != api.OK && (is != was || lineOf(0, c) != lineOf(0, old)):
		t.Fatalf("%v after %v of %v", c, want, old)
	case want == api.OK && !was && c.Epoch != 1:
		t.Fatalf("the first one: %v", c)
	case want == api.OK && was:
		wantAfter(t, o, old, c)
	}
	return want
}

func (p *pair) again(t testing.TB, o *master.Order) {
	t.Helper()
	x, e := master.Read(p.x.Text())
	if e != api.OK {
		t.Fatalf("Read of %q: %v", p.x.Text(), e)
	}
	p.x = x
	r, e := master.ReadOrder(master.Write(*o))
	if e != api.OK || !same(r, *o) {
		t.Fatalf("ReadOrder of %q: %v", master.Write(*o), e)
	}
	*o = r
}

// wantFull checks that a configuration has valid members, of which one is full.
func wantFull(t testing.TB, c master.Config) {
	t.Helper()
	full := len(c.Members)
	if c.Joining {
		full--
	}
	if full < 1 || len(c.Members) > 7 || c.Epoch < 1 {
		t.Fatalf("a configuration: %v", c)
	}
	for i, m := range c.Members {
		if m < 0 || m > 99 || c.At(m) != i {
			t.Fatalf("the members of %v", c)
		}
	}
}

// wantAfter checks what P13.4 says of a configuration that an order made of a previous one.
func wantAfter(t testing.TB, o master.Order, old, c master.Config) {
	t.Helper()
	if want := old.Epoch + 1; o.Kind == master.Full && c.Epoch != old.Epoch || o.Kind != master.Full && c.Epoch != want {
		t.Fatalf("epoch %d after %d by %v", c.Epoch, old.Epoch, o)
	}
	isOld := func(n int) bool { return old.At(n) >= 0 }
	isNew := func(n int) bool { return c.At(n) >= 0 }
	common := slices.DeleteFunc(slices.Clone(old.Members), func(n int) bool { return !isNew(n) })
	still := slices.DeleteFunc(slices.Clone(c.Members), func(n int) bool { return !isOld(n) })
	if !slices.Equal(common, still) {
		t.Fatalf("%v after %v", c, old)
	}
	for i, n := range c.Members {
		if !isOld(n) && (i != len(c.Members)-1 || !c.Joining) {
			t.Fatalf("%d is there first in %v, after %v", n, c, old)
		}
	}
}

// kinds are the kinds of orders, with all that may come of one.
func kinds() map[int][]api.Errno {
	return map[int][]api.Errno{
		master.Init: {api.OK, api.ErrArg, api.ErrTwice},
		master.Drop: {api.OK, api.ErrArg, api.ErrName, api.ErrOld, api.ErrState},
		master.Join: {api.OK, api.ErrArg, api.ErrName, api.ErrOld, api.ErrTwice, api.ErrState},
		master.Full: {api.OK, api.ErrArg, api.ErrName, api.ErrOld, api.ErrState},
	}
}

// Each kind of order is executed in these plays, and refused for each reason, or else they show little.
func TestP134LikeModel(t *testing.T) {
	seen := map[[2]int]int{}
	for seed := range 200 {
		r := rand.New(rand.NewSource(int64(seed)))
		p := &pair{master.New(), &model{}}
		for range 300 {
			o := p.m.guess(r.Intn(1000), r.Intn(1000), r.Intn(1000), r.Intn(1000), r.Intn(256))
			seen[[2]int{o.Kind, int(p.play(t, o, r.Intn(4) == 0))}]++
		}
	}
	for kind, errs := range kinds() {
		for _, e := range errs {
			if seen[[2]int{kind, int(e)}] < 20 {
				t.Errorf("of kind %d, %v came %d times", kind, e, seen[[2]int{kind, int(e)}])
			}
		}
	}
}

// rows are all lists of different ones of these nodes.
func rows(nodes []int) [][]int {
	l := [][]int{nil}
	for i := 0; i < len(l); i++ {
		for _, n := range nodes {
			if !slices.Contains(l[i], n) {
				l = append(l, append(slices.Clone(l[i]), n))
			}
		}
	}
	return l
}

// From each configuration of some nodes, each order for them leads to what the document's words say.
func TestP134All(t *testing.T) {
	for _, nodes := range rows([]int{0, 1, 2, 99}) {
		for joining := range 2 {
			if len(nodes) <= joining {
				continue
			}
			for kind := -1; kind <= 4; kind++ {
				for _, node := range []int{-1, 0, 1, 2, 3, 99, 100} {
					for epoch := 6; epoch <= 8; epoch++ {
						m := &model{}
						m[5].epoch = 7
						for i, n := range nodes {
							m[5].members = append(m[5].members, member{n, i < len(nodes)-joining})
						}
						p := &pair{of(t, m.lines()...), m}
						p.play(t, order(kind, 5, epoch, node), false)
					}
				}
			}
		}
	}
}

// Each list of members begins a chain, if it has one, and only a chain that has none yet.
func TestP134AllInits(t *testing.T) {
	for _, nodes := range append(rows([]int{0, 7, 99}), []int{7, 7}, []int{0, 7, 0}, []int{100}, []int{0, -1}) {
		p := &pair{master.New(), &model{}}
		for range 2 {
			p.play(t, initial(0, nodes...), false)
			p.play(t, initial(9, nodes...), false)
		}
	}
}

func FuzzP134LikeModel(f *testing.F) {
	f.Add([]byte{0, 0, 0, 1, 3, 1, 0, 0, 1, 0, 2, 0, 0, 9, 0, 3, 0, 0, 1, 0})
	f.Add([]byte{0, 1, 0, 1, 9 + 7, 2, 1, 0, 5, 0, 1, 1, 0, 2, 0, 29, 1, 0, 1, 0})
	f.Fuzz(func(t *testing.T, b []byte) {
		p := &pair{master.New(), &model{}}
		for ; len(b) >= 5; b = b[5:] {
			p.play(t, p.m.guess(int(b[0]), int(b[1]), int(b[2]), int(b[3]), int(b[4])), b[4]%4 == 3)
		}
	})
}
