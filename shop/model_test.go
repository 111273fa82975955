package shop_test

import (
	"math/rand"
	"slices"
	"strconv"
	"strings"
	"testing"

	"daisychain/api"
	"daisychain/queue"
	"daisychain/shop"
)

// stall is a queue with its name, and did what a client did last.
type stall struct {
	name string
	q    *queue.Queue
}
type did struct {
	client, req int
	a           shop.Answer
}

// model is a shop, as the document's words say it; its stalls are in the order of their names.
type model struct {
	now    int
	stalls []stall
	dids   []did
}

// find is the place of a queue, or -1.
func (m *model) find(name string) int {
	return slices.IndexFunc(m.stalls, func(x stall) bool { return x.name == name })
}

func failed(e api.Errno) shop.Answer { return shop.Answer{Code: int(e)} }

func ids(l ...int) shop.Answer { return shop.Answer{Ids: l} }

func (m *model) apply(c shop.Cmd) shop.Answer {
	if c.Client < 0 {
		return failed(api.ErrArg)
	}
	if c.Client == 0 {
		return m.execute(c)
	}
	i := slices.IndexFunc(m.dids, func(d did) bool { return d.client == c.Client })
	if i < 0 {
		if len(m.dids) == 64 {
			return failed(api.ErrFull)
		}
		m.dids = append(m.dids, did{c.Client, c.Req, m.execute(c)})
		return m.dids[len(m.dids)-1].a
	}
	if m.dids[i].req > c.Req {
		return failed(api.ErrOld)
	}
	if m.dids[i].req < c.Req {
		m.dids[i] = did{c.Client, c.Req, m.execute(c)}
	}
	return m.dids[i].a
}

func (m *model) execute(c shop.Cmd) shop.Answer {
	i := m.find(c.Queue)
	if c.Kind < 0 || c.Kind > 9 {
		return failed(api.ErrArg)
	}
	if c.Kind > 1 && i < 0 {
		return failed(api.ErrName)
	}
	switch c.Kind {
	case 0:
		return m.tick(c.N)
	case 1:
		return m.create(c)
	case 2:
		n := len(m.stalls[i].q.Ids())
		m.stalls = slices.Delete(m.stalls, i, i+1)
		return ids(n)
	}
	q := m.stalls[i].q
	n, e, a := 0, api.OK, shop.Answer{}
	switch c.Kind {
	case 3:
		e = q.Set(c.A)
	case 4:
		n = q.Purge()
		a = ids(n)
	case 5:
		n, e = q.Send(c.Body, c.Group, c.Key, c.N)
		a = ids(n)
	case 6:
		return m.batch(q, c)
	case 7:
		a.Took, e = q.Receive(c.N, c.M)
	case 8:
		n, e = q.Ack(c.Receipt)
		a = ids(n)
	case 9:
		e = q.Extend(c.Receipt, c.N)
	}
	if e != api.OK {
		return failed(e)
	}
	return a
}

func (m *model) create(c shop.Cmd) shop.Answer {
	q := queue.New(c.A)
	switch {
	case q == nil || len(c.Queue) < 1 || len(c.Queue) > 64:
		return failed(api.ErrArg)
	case m.find(c.Queue) >= 0:
		return failed(api.ErrTwice)
	case len(m.stalls) == 16:
		return failed(api.ErrFull)
	}
	q.Tick(m.now)
	m.stalls = append(m.stalls, stall{c.Queue, q})
	slices.SortFunc(m.stalls, func(a, b stall) int { return strings.Compare(a.name, b.name) })
	return shop.Answer{}
}

func (m *model) batch(q *queue.Queue, c shop.Cmd) (a shop.Answer) {
	if len(c.Bodies) < 1 || len(c.Bodies) > 10 {
		return failed(api.ErrArg)
	}
	for _, body := range c.Bodies {
		n, e := q.Send(body, c.Group, "", c.N)
		if a.Code = int(e); e != api.OK {
			return a
		}
		a.Ids = append(a.Ids, n)
	}
	return a
}

func (m *model) tick(now int) shop.Answer {
	if now < m.now || now > 1<<40 {
		return failed(api.ErrArg)
	}
	m.now = now
	dead := make([][]queue.Letter, len(m.stalls))
	var moved, lost, expired int
	for i, x := range m.stalls {
		l, gone := x.q.Tick(now)
		dead[i], expired = l, expired+len(gone)
	}
	for i, x := range m.stalls {
		for _, y := range dead[i] {
			if j := m.find(x.q.Attr().Dead); j >= 0 && bury(m.stalls[j].q, y) {
				moved++
			} else {
				lost++
			}
		}
	}
	return ids(moved, lost, expired)
}

// bury sends a dead message, and tells whether it was sent.
func bury(q *queue.Queue, x queue.Letter) bool {
	group := x.Group
	if !q.Attr().Fifo {
		group = ""
	} else if group == "" {
		group = "dead"
	}
	_, e := q.Send(x.Body, group, "", -1)
	return e == api.OK
}

// equal compares answers, without a call of the shop's own.
func equal(a, b shop.Answer) bool {
	return a.Code == b.Code && slices.Equal(a.Ids, b.Ids) && slices.Equal(a.Took, b.Took)
}

// wantQueues checks that two queues are equal, in what they tell, and in what can be received, now and later on.
func wantQueues(t testing.TB, a, b *queue.Queue) {
	t.Helper()
	if a.Attr() != b.Attr() || a.Now() != b.Now() || !slices.Equal(a.Ids(), b.Ids()) {
		t.Fatalf("queues: %v, %d, %v, and %v, %d, %v", a.Attr(), a.Now(), a.Ids(), b.Attr(), b.Now(), b.Ids())
	}
	for _, id := range a.Ids() {
		untilA, isA := a.Leased(id)
		if untilB, isB := b.Leased(id); untilA != untilB || isA != isB {
			t.Fatalf("leases of %d: %d, %v, and %d, %v", id, untilA, isA, untilB, isB)
		}
	}
	a, b = a.Copy(), b.Copy()
	for _, wait := range []int{0, 3, 20} {
		deadA, goneA := a.Tick(a.Now() + wait)
		deadB, goneB := b.Tick(b.Now() + wait)
		if !slices.Equal(deadA, deadB) || !slices.Equal(goneA, goneB) {
			t.Fatalf("Ticks: %v, %v, and %v, %v", deadA, goneA, deadB, goneB)
		}
		for n := 1; n > 0; {
			l, _ := a.Receive(10, 0)
			if m, _ := b.Receive(10, 0); !slices.Equal(l, m) {
				t.Fatalf("Receives: %v, and %v", l, m)
			}
			n = len(l)
		}
	}
}

// wantLike checks all that a shop tells without a change.
func wantLike(t testing.TB, s *shop.Shop, m *model) {
	t.Helper()
	if s.Now() != m.now {
		t.Fatalf("Now is %d, not %d", s.Now(), m.now)
	}
	var names []string
	for _, x := range m.stalls {
		names = append(names, x.name)
		q, is := s.Queue(x.name)
		if !is {
			t.Fatalf("there is no queue %q", x.name)
		}
		wantQueues(t, q, x.q)
	}
	if l := s.Names(); !slices.Equal(l, names) {
		t.Fatalf("Names are %q, not %q", l, names)
	}
	known := map[int]did{}
	for _, d := range m.dids {
		known[d.client] = d
	}
	for client := -1; client <= 70; client++ {
		req, a, is := s.Last(client)
		d, want := known[client]
		if is != want || req != d.req || !equal(a, d.a) {
			t.Fatalf("Last of %d is %d, %v, %v, not %d, %v, %v", client, req, a, is, d.req, d.a, want)
		}
	}
}

// names are those that commands have; one of them is not valid.
var names = []string{"a", "b", "c", "dead", ""}

// attr are attributes that two numbers say, valid ones for the most part.
func attr(x, y int) queue.Attr {
	a := queue.Attr{Visible: 1 + x%4, Retain: 1 + y%30, Delay: y % 3, Window: x % 3 * 5, Max: x / 8 % 3, Fifo: y%2 > 0}
	if a.Max > 0 || y == 0 {
		a.Dead = []string{"dead", "a", "b", "none"}[x/32%4]
	}
	return a
}

// command is what some numbers, from 0 to 255, say.
func command(m *model, kind, x, y int) shop.Cmd {
	c := shop.Cmd{Client: y%7 - 1, Req: m.now + x%4, Kind: kind % 10, Queue: names[x%5], A: attr(x, y)}
	fifo, some := false, 1
	if i := m.find(c.Queue); i >= 0 {
		q := m.stalls[i].q
		fifo = q.Attr().Fifo
		if l := q.Ids(); len(l) > 0 {
			some = l[x%len(l)]
		}
	}
	c.N = -1
	if fifo {
		c.Group = string(rune('g' + y%3))
	}
	c.Body, c.Receipt = strconv.Itoa(x), strconv.Itoa(some)+"."+strconv.Itoa(1+y%3)
	if y%4 == 0 {
		c.Key = string(rune('k' + x%3))
	}
	switch kind % 20 {
	case shop.Tick, 10, 11, 12:
		c.Kind, c.N = shop.Tick, m.now+x%8-1
	case shop.Delete, shop.Purge:
		if y%8 > 0 { // seldom, so that there is something to lose
			c.Kind = shop.Create
		}
	case shop.Batch:
		c.Bodies = strings.Split(strings.Repeat("x", y%12), "")
	case shop.Receive, 13, 14, 17:
		c.Kind, c.N, c.M = shop.Receive, x%12, y%6
	case shop.Extend:
		c.N = y % 6
	case 19:
		c.Kind = []int{-1, 10, shop.Send, shop.Extend}[x%4]
	}
	return c
}

// play has a shop and its model do what some numbers say; it returns the shop, or a copy of it, which is to go on.
func play(t testing.TB, s *shop.Shop, m *model, kind, x, y int) *shop.Shop {
	t.Helper()
	c := command(m, kind, x, y)
	if y%16 == 15 {
		was := s
		s = s.Copy()
		was.Apply(shop.Cmd{Kind: shop.Tick, N: was.Now() + 9})
		was.Apply(shop.Cmd{Client: 2, Req: m.now + 99, Kind: shop.Create, Queue: "z", A: attr(1, 1)})
		was.Apply(shop.Cmd{Kind: shop.Delete, Queue: c.Queue})
	}
	if a, want := s.Apply(c), m.apply(c); !equal(a, want) {
		t.Fatalf("Apply of %v: %v, not %v", c, a, want)
	}
	wantLike(t, s, m)
	return s
}

func TestP92LikeModel(t *testing.T) {
	for seed := range 100 {
		r := rand.New(rand.NewSource(int64(seed)))
		s, m := shop.New(), &model{}
		for range 300 {
			s = play(t, s, m, r.Intn(20), r.Intn(256), r.Intn(256))
		}
	}
}

func FuzzP92LikeModel(f *testing.F) {
	f.Add([]byte{1, 0, 2, 5, 0, 2, 7, 0, 3, 0, 7, 1, 7, 0, 3, 8, 0, 2})
	f.Add([]byte{1, 8, 2, 1, 3, 9, 5, 8, 2, 7, 11, 1, 10, 7, 1, 2, 8, 8})
	f.Fuzz(func(t *testing.T, b []byte) {
		s, m := shop.New(), &model{}
		for b = b[:min(len(b), 900)]; len(b) >= 3; b = b[3:] {
			s = play(t, s, m, int(b[0]), int(b[1]), int(b[2]))
		}
	})
}

// Two shops that executed the same commands are equal, although one of them is copied midway, and executes those of
// clients twice: such a command happens once, and has the same answer.
func TestP94SameCommands(t *testing.T) {
	for seed := range 30 {
		r := rand.New(rand.NewSource(int64(seed)))
		a, b, m := shop.New(), shop.New(), &model{}
		for range 300 {
			c := command(m, r.Intn(20), r.Intn(256), r.Intn(256))
			m.apply(c)
			answer := a.Apply(c)
			want(t, b, c, answer)
			if c.Client != 0 {
				want(t, b, c, answer)
			}
			if r.Intn(10) == 0 {
				b = b.Copy()
			}
			wantLike(t, a, m)
			wantLike(t, b, m)
		}
	}
}
