package queue_test

import (
	"math/rand"
	"slices"
	"strconv"
	"testing"

	"daisychain/api"
	"daisychain/queue"
)

// item is a message; until is the time until which it waits, or is leased.
type item struct {
	id, count, sent, until int
	leased                 bool
	body, group            string
}

// known is the number that belongs to a key.
type known struct{ id, until int }

// model is a queue, as the document's words say it; its items are in the order of their numbers.
type model struct {
	a         queue.Attr
	now, last int
	items     []item
	keys      map[string]known
}

func newModel(a queue.Attr) *model { return &model{a: a, keys: map[string]known{}} }

func (m *model) copy() *model {
	c := *m
	c.items, c.keys = slices.Clone(m.items), map[string]known{}
	for key, k := range m.keys {
		c.keys[key] = k
	}
	return &c
}

func (m *model) set(a queue.Attr) api.Errno {
	if !queue.Right(a) || a.Fifo != m.a.Fifo {
		return api.ErrArg
	}
	m.a = a
	return api.OK
}

func (m *model) tick(now int) (dead []queue.Letter, gone []int) {
	if now < m.now || now > api.MaxTime {
		return nil, nil
	}
	m.now = now
	var left []item
	for _, x := range m.items {
		switch {
		case !x.leased || x.until > now:
			left = append(left, x)
		case m.a.Max > 0 && x.count >= m.a.Max:
			dead = append(dead, queue.Letter{x.id, x.count, x.body, x.group})
		default:
			x.leased, x.until = false, now
			left = append(left, x)
		}
	}
	m.items = nil
	for _, x := range left {
		if x.sent+m.a.Retain <= now {
			gone = append(gone, x.id)
		} else {
			m.items = append(m.items, x)
		}
	}
	for key, k := range m.keys {
		if k.until <= now {
			delete(m.keys, key)
		}
	}
	return dead, gone
}

func (m *model) send(body, group, key string, delay int) (int, api.Errno) {
	if len(body) > 256 || len(group) > 256 || len(key) > 256 {
		return 0, api.ErrArg
	}
	if m.a.Fifo && (group == "" || delay != -1) || !m.a.Fifo && (group != "" || delay < -1 || delay > 1<<20) {
		return 0, api.ErrArg
	}
	if k, is := m.keys[key]; is && key != "" {
		return k.id, api.OK
	}
	if len(m.items) == 1<<10 || key != "" && m.a.Window > 0 && len(m.keys) == 1<<12 {
		return 0, api.ErrFull
	}
	if delay == -1 {
		delay = m.a.Delay
	}
	m.last++
	m.items = append(m.items, item{id: m.last, sent: m.now, until: m.now + delay, body: body, group: group})
	if key != "" && m.a.Window > 0 {
		m.keys[key] = known{m.last, m.now + m.a.Window}
	}
	return m.last, api.OK
}

// first tells whether an item has no earlier one in its group.
func (m *model) first(x item) bool {
	i := slices.IndexFunc(m.items, func(y item) bool { return y.group == x.group })
	return m.items[i].id == x.id
}

func (m *model) receive(n, visible int) ([]queue.Took, api.Errno) {
	if n < 1 || n > 10 || visible < 0 || visible > 1<<20 {
		return nil, api.ErrArg
	}
	if visible == 0 {
		visible = m.a.Visible
	}
	var l []queue.Took
	for i, x := range m.items {
		if len(l) == n || x.leased || x.until > m.now || m.a.Fifo && !m.first(x) {
			continue
		}
		x.leased, x.until, x.count = true, m.now+visible, x.count+1
		m.items[i] = x
		l = append(l, took(x.id, x.count, x.body, x.group))
	}
	return l, api.OK
}

// find is the place of the item that is leased with a receipt, or -1.
func (m *model) find(receipt string) int {
	return slices.IndexFunc(m.items, func(x item) bool { return x.leased && receipt == receiptOf(x.id, x.count) })
}

func (m *model) ack(receipt string) (int, api.Errno) {
	i := m.find(receipt)
	if i < 0 {
		return 0, api.ErrReceipt
	}
	id := m.items[i].id
	m.items = slices.Delete(m.items, i, i+1)
	return id, api.OK
}

func (m *model) extend(receipt string, visible int) api.Errno {
	if visible < 0 || visible > 1<<20 {
		return api.ErrArg
	}
	i := m.find(receipt)
	if i < 0 {
		return api.ErrReceipt
	}
	m.items[i].leased, m.items[i].until = visible > 0, m.now+visible
	return api.OK
}

func (m *model) purge() int {
	n := len(m.items)
	m.items = nil
	return n
}

// receiptOf is the receipt of a message that was received so often.
func receiptOf(id, count int) string { return strconv.Itoa(id) + "." + strconv.Itoa(count) }

// took is a message that was received, and how often.
func took(id, count int, body, group string) queue.Took {
	return queue.Took{Id: id, Count: count, Receipt: receiptOf(id, count), Body: body, Group: group}
}

// pair is a queue and its model.
type pair struct {
	q *queue.Queue
	m *model
}

func newPair(a queue.Attr) *pair { return &pair{queue.New(a), newModel(a)} }

// want checks all that a queue tells without a change.
func (p *pair) want(t testing.TB) {
	t.Helper()
	if p.q.Attr() != p.m.a || p.q.Now() != p.m.now {
		t.Fatalf("Attr is %v, not %v; Now is %d, not %d", p.q.Attr(), p.m.a, p.q.Now(), p.m.now)
	}
	var ids []int
	leases := map[int]int{}
	for _, x := range p.m.items {
		ids = append(ids, x.id)
		if x.leased {
			leases[x.id] = x.until
		}
	}
	wantIds(t, p.q, ids...)
	for id := -1; id <= p.m.last+1; id++ {
		until, is := p.q.Leased(id)
		if want, leased := leases[id]; is != leased || until != want {
			t.Fatalf("Leased of %d is %d, %v, not %d, %v", id, until, is, want, leased)
		}
	}
}

// wantAll checks what a queue keeps and does not tell, too: all that can be received at once, and later on.
func (p *pair) wantAll(t testing.TB) {
	t.Helper()
	p.want(t)
	c := &pair{p.q.Copy(), p.m.copy()}
	for _, wait := range []int{0, 1, 5, 20} {
		c.tick(t, c.m.now+wait)
		for c.receive(t, 10, 0) > 0 {
		}
	}
	c.want(t)
}

func (p *pair) tick(t testing.TB, now int) {
	t.Helper()
	dead, gone := p.q.Tick(now)
	wantDead, wantGone := p.m.tick(now)
	if !slices.Equal(dead, wantDead) || !slices.Equal(gone, wantGone) {
		t.Fatalf("Tick of %d: %v, %v, not %v, %v", now, dead, gone, wantDead, wantGone)
	}
}

func (p *pair) send(t testing.TB, body, group, key string, delay int) {
	t.Helper()
	id, e := p.q.Send(body, group, key, delay)
	if want, wantE := p.m.send(body, group, key, delay); id != want || e != wantE {
		t.Fatalf("Send of %.9q, %.9q, %.9q, %d: %d, %v, not %d, %v", body, group, key, delay, id, e, want, wantE)
	}
}

// receive tells how many messages were received.
func (p *pair) receive(t testing.TB, n, visible int) int {
	t.Helper()
	l, e := p.q.Receive(n, visible)
	if want, wantE := p.m.receive(n, visible); !slices.Equal(l, want) || e != wantE {
		t.Fatalf("Receive of %d, %d: %v, %v, not %v, %v", n, visible, l, e, want, wantE)
	}
	return len(l)
}

func (p *pair) ack(t testing.TB, receipt string) {
	t.Helper()
	id, e := p.q.Ack(receipt)
	if want, wantE := p.m.ack(receipt); id != want || e != wantE {
		t.Fatalf("Ack of %q: %d, %v, not %d, %v", receipt, id, e, want, wantE)
	}
}

func (p *pair) extend(t testing.TB, receipt string, visible int) {
	t.Helper()
	if e, want := p.q.Extend(receipt, visible), p.m.extend(receipt, visible); e != want {
		t.Fatalf("Extend of %q, %d: %v, not %v", receipt, visible, e, want)
	}
}

func (p *pair) set(t testing.TB, a queue.Attr) {
	t.Helper()
	if e, want := p.q.Set(a), p.m.set(a); e != want {
		t.Fatalf("Set of %v: %v, not %v", a, e, want)
	}
}

func (p *pair) purge(t testing.TB) {
	t.Helper()
	if n, want := p.q.Purge(), p.m.purge(); n != want {
		t.Fatalf("Purge: %d, not %d", n, want)
	}
}

// receipt is one that some message may have.
func (p *pair) receipt(x, y int) string {
	if len(p.m.items) == 0 || x%8 == 0 {
		return receiptOf(x, y)
	}
	i := p.m.items[x%len(p.m.items)]
	return receiptOf(i.id, i.count-y/100)
}

// attr are attributes that two numbers say, valid ones for the most part.
func attr(x, y int, fifo bool) queue.Attr {
	a := queue.Attr{Visible: 1 + x%8, Retain: 1 + y%40, Delay: y % 3, Window: x % 4 * 5, Max: x / 8 % 4, Fifo: fifo}
	if a.Max > 0 || y == 0 {
		a.Dead = "dead"
	}
	return a
}

// play does to both what one number says, with two other ones, from 0 to 255.
func (p *pair) play(t testing.TB, what, x, y int) {
	t.Helper()
	switch what % 20 {
	default:
		group, key := "", ""
		if p.m.a.Fifo {
			group = string(rune('a' + x%5))
		}
		if y%2 == 1 {
			key = string(rune('A' + y/2%8))
		}
		p.send(t, strconv.Itoa(p.m.last), group, key, []int{-1, -1, -1, 0, 1, 5}[y/16%6])
	case 7, 8, 9, 10:
		p.receive(t, 1+x%3, y%8)
	case 11, 12:
		p.ack(t, p.receipt(x, y))
	case 13:
		p.extend(t, p.receipt(x, y), y%8)
	case 14, 15, 16:
		p.tick(t, p.m.now+x%8-1)
	case 17:
		p.set(t, attr(x, y, p.m.a.Fifo != (y > 250)))
	case 18:
		if x%8 == 0 {
			p.purge(t)
		}
	case 19:
		was := p.q
		p.q = p.q.Copy()
		was.Receive(1+x%10, 0)
		was.Tick(was.Now() + y)
		was.Send("other", "", "", 0)
		was.Purge()
	}
	p.wantAll(t)
}

func TestP81LikeModel(t *testing.T) {
	for seed := range 200 {
		r := rand.New(rand.NewSource(int64(seed)))
		p := newPair(attr(r.Intn(256), 1+r.Intn(255), seed%2 == 0))
		for range 200 {
			p.play(t, r.Intn(20), r.Intn(256), r.Intn(256))
		}
	}
}

func FuzzP81LikeModel(f *testing.F) {
	f.Add(byte(3), byte(9), true, []byte{0, 1, 5, 0, 2, 3, 7, 3, 5, 14, 7, 5, 7, 1, 1})
	f.Add(byte(12), byte(39), false, []byte{0, 1, 9, 0, 2, 8, 7, 2, 7, 14, 2, 2, 11, 1, 0, 13, 1, 0, 7, 1, 1, 17, 7, 9, 14, 7, 7})
	f.Fuzz(func(t *testing.T, x, y byte, fifo bool, b []byte) {
		p := newPair(attr(int(x), max(int(y), 1), fifo))
		for b = b[:min(len(b), 900)]; len(b) >= 3; b = b[3:] {
			p.play(t, int(b[0]), int(b[1]), int(b[2]))
		}
	})
}

// tally is what became of each message, by its number.
type tally map[int]string

func (l tally) end(t *testing.T, id int, how string) {
	t.Helper()
	if was := l[id]; was != "" {
		t.Fatalf("message %d: %s, and %s", id, was, how)
	}
	l[id] = how
}

// Each message is there, or was acked, or purged, or expired, or is a dead one: exactly one of these.
func TestP85NothingIsLost(t *testing.T) {
	for seed := range 50 {
		r := rand.New(rand.NewSource(int64(seed)))
		q := queue.New(queue.Attr{Visible: 5, Retain: 30, Max: 2, Dead: "dead", Fifo: seed%2 == 0})
		ends, sent := tally{}, 0
		for range 300 {
			switch r.Intn(8) {
			default:
				if _, e := q.Send("x", []string{"", "a"}[(seed+1)%2], "", -1); e == api.OK {
					sent++
				}
			case 5:
				dead, gone := q.Tick(q.Now() + r.Intn(6))
				for _, x := range dead {
					ends.end(t, x.Id, "dead")
				}
				for _, id := range gone {
					ends.end(t, id, "expired")
				}
			case 6:
				l, _ := q.Receive(3, 0)
				for _, x := range l {
					if how := ends[x.Id]; how != "" {
						t.Fatal("received:", x, "that was", how)
					}
					if r.Intn(2) == 0 {
						id, _ := q.Ack(x.Receipt)
						ends.end(t, id, "acked")
					}
				}
			case 7:
				if r.Intn(20) == 0 {
					for _, id := range q.Ids() {
						ends.end(t, id, "purged")
					}
					q.Purge()
				}
			}
			for _, id := range q.Ids() {
				if how := ends[id]; how != "" {
					t.Fatal("message", id, "is there, and was", how)
				}
			}
			if len(ends)+len(q.Ids()) != sent {
				t.Fatal(sent, "were sent;", len(ends), "ended;", q.Ids(), "are there")
			}
		}
	}
}
