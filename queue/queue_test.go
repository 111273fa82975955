package queue_test

import (
	"math"
	"slices"
	"strconv"
	"strings"
	"testing"

	"daisychain/api"
	"daisychain/queue"
)

// least and most are the least and the greatest number; much is the greatest one of most attributes.
const (
	least, most = math.MinInt, math.MaxInt
	much        = 1 << 20
)

// plain, fifo and deadly are attributes: of a simple queue, of one with groups, and of one that has messages die.
var (
	plain  = queue.Attr{Visible: 10, Retain: 100}
	fifo   = queue.Attr{Visible: 10, Retain: 100, Fifo: true}
	deadly = queue.Attr{Visible: 10, Retain: 100, Max: 2, Dead: "dead"}
	keyed  = queue.Attr{Visible: 10, Retain: 100, Window: 20}
)

// with is a queue with messages, numbered from 1 on; for a Fifo one, the groups are the bodies' first letters.
func with(t testing.TB, a queue.Attr, bodies ...string) *queue.Queue {
	t.Helper()
	q := queue.New(a)
	for i, body := range bodies {
		group := ""
		if a.Fifo {
			group = body[:1]
		}
		wantSend(t, q, i+1, body, group, "", -1)
	}
	return q
}

// wantIds checks which messages are there.
func wantIds(t testing.TB, q *queue.Queue, want ...int) {
	t.Helper()
	if ids := q.Ids(); !slices.Equal(ids, want) {
		t.Fatalf("Ids: %v, not %v", ids, want)
	}
}

// wantSend sends a message, and checks its number.
func wantSend(t testing.TB, q *queue.Queue, want int, body, group, key string, delay int) {
	t.Helper()
	if id, e := q.Send(body, group, key, delay); id != want || e != api.OK {
		t.Fatalf("Send of %.9q, %.9q, %.9q, %d: %d, %v, not %d", body, group, key, delay, id, e, want)
	}
}

// wantNoSend sends a message, and checks the error.
func wantNoSend(t testing.TB, q *queue.Queue, want api.Errno, body, group, key string, delay int) {
	t.Helper()
	if id, e := q.Send(body, group, key, delay); id != 0 || e != want {
		t.Fatalf("Send of %.9q, %.9q, %.9q, %d: %d, %v, not %v", body, group, key, delay, id, e, want)
	}
}

// wantReceive receives messages, and checks them.
func wantReceive(t testing.TB, q *queue.Queue, n, visible int, want ...queue.Took) {
	t.Helper()
	if l, e := q.Receive(n, visible); !slices.Equal(l, want) || e != api.OK {
		t.Fatalf("Receive of %d, %d: %v, %v, not %v", n, visible, l, e, want)
	}
}

// wantReceived receives messages, and checks their numbers.
func wantReceived(t testing.TB, q *queue.Queue, n int, want ...int) {
	t.Helper()
	l, e := q.Receive(n, 0)
	var ids []int
	for _, x := range l {
		ids = append(ids, x.Id)
	}
	if !slices.Equal(ids, want) || e != api.OK {
		t.Fatalf("Receive of %d: %v, %v, not %v", n, l, e, want)
	}
}

// wantLeased checks until when a message is leased; 0 is not at all.
func wantLeased(t testing.TB, q *queue.Queue, id, want int) {
	t.Helper()
	if until, is := q.Leased(id); until != want || is != (want > 0) {
		t.Fatalf("Leased of %d: %d, %v, not %d", id, until, is, want)
	}
}

// wantTick has time go on, and checks that no message is dead, and which ones expired.
func wantTick(t testing.TB, q *queue.Queue, now int, gone ...int) {
	t.Helper()
	wantDead(t, q, now, gone)
}

// wantDead has time go on, and checks which messages expired, and which ones are dead.
func wantDead(t testing.TB, q *queue.Queue, now int, gone []int, dead ...queue.Letter) {
	t.Helper()
	gotDead, gotGone := q.Tick(now)
	if !slices.Equal(gotDead, dead) || !slices.Equal(gotGone, gone) || q.Now() != now {
		t.Fatalf("Tick of %d: %v, %v, not %v, %v; Now is %d", now, gotDead, gotGone, dead, gone, q.Now())
	}
}

// wantAck acks messages, the numbers of which the receipts begin with.
func wantAck(t testing.TB, q *queue.Queue, receipts ...string) {
	t.Helper()
	for _, r := range receipts {
		digits, _, _ := strings.Cut(r, ".")
		want, _ := strconv.Atoi(digits)
		if id, e := q.Ack(r); id != want || e != api.OK {
			t.Fatalf("Ack of %q: %d, %v", r, id, e)
		}
	}
}

// wantExtend extends a lease, and checks the error.
func wantExtend(t testing.TB, q *queue.Queue, want api.Errno, receipt string, visible int) {
	t.Helper()
	if e := q.Extend(receipt, visible); e != want {
		t.Fatalf("Extend of %q, %d: %v, not %v", receipt, visible, e, want)
	}
}

// wantVoid checks that receipts have no effect.
func wantVoid(t testing.TB, q *queue.Queue, receipts ...string) {
	t.Helper()
	before := q.Ids()
	for _, r := range receipts {
		if id, e := q.Ack(r); id != 0 || e != api.ErrReceipt {
			t.Fatalf("Ack of %q: %d, %v", r, id, e)
		}
		for _, visible := range []int{0, 1, much} {
			wantExtend(t, q, api.ErrReceipt, r, visible)
		}
		wantIds(t, q, before...)
	}
}

// wantSet changes the attributes.
func wantSet(t testing.TB, q *queue.Queue, a queue.Attr) {
	t.Helper()
	if e := q.Set(a); e != api.OK || q.Attr() != a {
		t.Fatalf("Set of %v: %v; Attr is %v", a, e, q.Attr())
	}
}

func TestP85Example(t *testing.T) {
	q := queue.New(plain)
	wantSend(t, q, 1, "x", "", "", -1)
	wantReceive(t, q, 1, 0, took(1, 1, "x", ""))
	wantTick(t, q, 11)
	wantReceive(t, q, 1, 0, took(1, 2, "x", ""))
}

// rights are attributes, and whether they are valid.
var rights = []struct {
	right bool
	a     queue.Attr
}{
	{true, queue.Attr{Visible: 1, Retain: 1}},
	{true, queue.Attr{Visible: 1, Retain: 1, Fifo: true}},
	{true, queue.Attr{Visible: much, Retain: much, Delay: much, Window: much, Max: 100, Dead: strings.Repeat("d", 64), Fifo: true}},
	{true, queue.Attr{Visible: 5, Retain: 6, Delay: 7, Window: 8, Max: 1, Dead: "d"}},
	{true, queue.Attr{Visible: 5, Retain: 6, Max: 9, Dead: "\x00\xff"}},
	{true, queue.Attr{Visible: 5, Retain: 6, Delay: 1}},
	{true, queue.Attr{Visible: 5, Retain: 6, Window: 1}},
	{false, queue.Attr{}},
	{false, queue.Attr{Visible: 0, Retain: 1}},
	{false, queue.Attr{Visible: 1, Retain: 0}},
	{false, queue.Attr{Visible: -1, Retain: 1}},
	{false, queue.Attr{Visible: 1, Retain: -1}},
	{false, queue.Attr{Visible: much + 1, Retain: 1}},
	{false, queue.Attr{Visible: 1, Retain: much + 1}},
	{false, queue.Attr{Visible: least, Retain: 1}},
	{false, queue.Attr{Visible: 1, Retain: most}},
	{false, queue.Attr{Visible: 1, Retain: 1, Delay: -1}},
	{false, queue.Attr{Visible: 1, Retain: 1, Delay: much + 1}},
	{false, queue.Attr{Visible: 1, Retain: 1, Window: -1}},
	{false, queue.Attr{Visible: 1, Retain: 1, Window: much + 1}},
	{false, queue.Attr{Visible: 1, Retain: 1, Delay: most, Window: least}},
	{false, queue.Attr{Visible: 1, Retain: 1, Max: -1}},
	{false, queue.Attr{Visible: 1, Retain: 1, Max: -1, Dead: "d"}},
	{false, queue.Attr{Visible: 1, Retain: 1, Max: 101, Dead: "d"}},
	{false, queue.Attr{Visible: 1, Retain: 1, Max: most, Dead: "d"}},
	{false, queue.Attr{Visible: 1, Retain: 1, Max: 1}},
	{false, queue.Attr{Visible: 1, Retain: 1, Max: 100}},
	{false, queue.Attr{Visible: 1, Retain: 1, Dead: "d"}},
	{false, queue.Attr{Visible: 1, Retain: 1, Max: 1, Dead: strings.Repeat("d", 65)}},
	{false, queue.Attr{Visible: 1, Retain: 1, Max: 1, Dead: strings.Repeat("é", 33)}},
	{false, queue.Attr{Visible: 1, Retain: 1, Max: 1, Dead: strings.Repeat("d", 1<<20)}},
}

func TestP81Right(t *testing.T) {
	for _, c := range rights {
		if queue.Right(c.a) != c.right {
			t.Errorf("Right of %v is not %v", c.a, c.right)
		}
	}
}

func TestP81New(t *testing.T) {
	for _, c := range rights {
		q := queue.New(c.a)
		if !c.right {
			if q != nil {
				t.Errorf("New of %v is there", c.a)
			}
			continue
		}
		p := &pair{q, newModel(c.a)}
		p.wantAll(t)
		for _, id := range []int{0, 1, -1, least, most} {
			wantLeased(t, q, id, 0)
		}
		wantVoid(t, q, "", "1.1", "1.0", "0.0")
		if n := q.Purge(); n != 0 {
			t.Error("Purge:", n)
		}
		p.wantAll(t)
	}
	q, other := queue.New(plain), queue.New(plain)
	wantSend(t, other, 1, "x", "", "", -1)
	wantIds(t, q)
	wantSend(t, q, 1, "y", "", "", -1)
}

func TestP81Set(t *testing.T) {
	for _, c := range rights {
		for _, was := range []queue.Attr{{Visible: 3, Retain: 9}, {Visible: 3, Retain: 9, Max: 5, Dead: "e", Fifo: true}} {
			q, want, left := queue.New(was), api.ErrArg, was
			if c.right && c.a.Fifo == was.Fifo {
				want, left = api.OK, c.a
			}
			if e := q.Set(c.a); e != want || q.Attr() != left {
				t.Errorf("Set of %v: %v; Attr is %v", c.a, e, q.Attr())
			}
		}
	}
}

// What was sent, or leased, or is known by a key, stays as it was; what the next calls do hangs on what was set.
func TestP81SetLater(t *testing.T) {
	a := queue.Attr{Visible: 10, Retain: 100, Delay: 5, Window: 20}
	q := queue.New(a)
	wantSend(t, q, 1, "a", "", "k", 0)
	wantSend(t, q, 2, "b", "", "", -1)
	wantReceived(t, q, 10, 1)
	wantSet(t, q, queue.Attr{Visible: 30, Retain: 50, Delay: 7})
	wantLeased(t, q, 1, 10)
	wantSend(t, q, 1, "c", "", "k", -1)
	wantSend(t, q, 3, "c", "", "l", -1)
	wantSend(t, q, 4, "c", "", "l", -1) // the Window is 0 by now
	wantTick(t, q, 5)
	wantReceived(t, q, 10, 2)
	wantLeased(t, q, 2, 35)
	wantTick(t, q, 7)
	wantReceived(t, q, 10, 3, 4)
	wantTick(t, q, 19)
	wantSend(t, q, 1, "c", "", "k", -1)
	wantTick(t, q, 20)
	wantSend(t, q, 5, "c", "", "k", 0)
	wantTick(t, q, 49)
	wantSet(t, q, queue.Attr{Visible: 30, Retain: 30})
	wantTick(t, q, 49, 1, 2, 3, 4) // the time is the same, and the Retain is not
	wantIds(t, q, 5)
	wantSet(t, q, queue.Attr{Visible: 30, Retain: 1000})
	wantTick(t, q, 1019)
	wantTick(t, q, 1020, 5)
}

// How often a message may be received is what was set when its lease ends.
func TestP81SetMax(t *testing.T) {
	q := with(t, plain, "a", "b")
	for range 3 {
		wantReceived(t, q, 1, 1)
		wantTick(t, q, q.Now()+10)
	}
	wantReceived(t, q, 2, 1, 2)
	wantSet(t, q, deadly)
	wantDead(t, q, 40, nil, queue.Letter{1, 4, "a", ""})
	wantReceived(t, q, 2, 2)
	wantSet(t, q, plain)
	wantTick(t, q, 50)
	wantSet(t, q, deadly) // the lease ended before
	wantTick(t, q, 60)
	wantReceive(t, q, 2, 0, took(2, 3, "b", ""))
	wantDead(t, q, 70, nil, queue.Letter{2, 3, "b", ""})
}

func TestP81Leased(t *testing.T) {
	q := with(t, plain, "a", "b", "c")
	wantTick(t, q, 3)
	wantReceived(t, q, 2, 1, 2)
	for _, c := range []struct{ id, want int }{{1, 13}, {2, 13}, {3, 0}, {4, 0}, {0, 0}, {-1, 0}, {least, 0}, {most, 0}} {
		wantLeased(t, q, c.id, c.want)
	}
	wantAck(t, q, "1.1")
	wantLeased(t, q, 1, 0)
	wantTick(t, q, 12)
	wantLeased(t, q, 2, 13)
	wantTick(t, q, 13)
	wantLeased(t, q, 2, 0)
}

// The numbers increase, whatever is removed, and whichever messages are leased.
func TestP81Ids(t *testing.T) {
	q := with(t, plain, "a", "b", "c", "d")
	wantReceived(t, q, 3, 1, 2, 3)
	wantIds(t, q, 1, 2, 3, 4)
	wantAck(t, q, "2.1")
	wantIds(t, q, 1, 3, 4)
	wantExtend(t, q, api.OK, "3.1", 0)
	wantSend(t, q, 5, "e", "", "", 9)
	wantIds(t, q, 1, 3, 4, 5)
	f := with(t, fifo, "b", "a", "b", "c", "a")
	wantIds(t, f, 1, 2, 3, 4, 5)
	wantReceived(t, f, 2, 1, 2)
	wantAck(t, f, "1.1")
	wantIds(t, f, 2, 3, 4, 5)
}

// Whatever happens to a copy, or to what was copied, does not happen to the other one.
func TestP81Copy(t *testing.T) {
	for _, change := range []func(q *queue.Queue){
		func(q *queue.Queue) { q.Set(queue.Attr{Visible: 1, Retain: 1}) },
		func(q *queue.Queue) { q.Tick(10) },
		func(q *queue.Queue) { q.Tick(100) },
		func(q *queue.Queue) { q.Send("z", "", "", 0) },
		func(q *queue.Queue) { q.Send("z", "", "l", 0) },
		func(q *queue.Queue) { q.Receive(10, 0) },
		func(q *queue.Queue) { q.Ack("1.1") },
		func(q *queue.Queue) { q.Extend("1.1", 50) },
		func(q *queue.Queue) { q.Extend("1.1", 0) },
		func(q *queue.Queue) { q.Purge() },
	} {
		for _, turn := range []bool{false, true} {
			p := newPair(keyed)
			p.tick(t, 2)
			p.send(t, "a", "", "k", -1)
			p.send(t, "b", "", "", -1)
			p.send(t, "c", "", "", 5)
			p.receive(t, 1, 0)
			c := p.q.Copy()
			if turn {
				p.q, c = c, p.q
			}
			change(c)
			p.want(t)
			c.Copy().Purge()
			p.wantAll(t)
			p.send(t, "a", "", "k", -1)
			p.send(t, "d", "", "l", -1)
			p.wantAll(t)
			p.ack(t, "1.1")
			p.wantAll(t)
		}
	}
}

// A Tick that is of an earlier time, or of one above the greatest, does nothing.
func TestP82Wrong(t *testing.T) {
	p := newPair(queue.Attr{Visible: 10, Retain: 20, Window: 15})
	p.send(t, "a", "", "k", -1)
	p.receive(t, 1, 0)
	p.tick(t, 5)
	p.send(t, "b", "", "l", -1)
	for _, now := range []int{4, 0, -1, least, api.MaxTime + 1, most} {
		if dead, gone := p.q.Tick(now); len(dead) > 0 || len(gone) > 0 {
			t.Error("Tick of", now, "returns", dead, gone)
		}
		p.wantAll(t)
	}
	wantTick(t, p.q, 5)
	p.wantAll(t)
	last := queue.New(plain)
	wantTick(t, last, api.MaxTime)
	wantSend(t, last, 1, "x", "", "", much)
	wantSend(t, last, 2, "x", "", "", 0)
	wantReceive(t, last, 2, much, took(2, 1, "x", ""))
	wantLeased(t, last, 2, api.MaxTime+much)
	last.Tick(api.MaxTime + 1)
	wantTick(t, last, api.MaxTime)
	wantIds(t, last, 1, 2)
}

// A lease ends at its time, not before; the message waits from then on.
func TestP82LeaseEnds(t *testing.T) {
	for _, behind := range []int{0, 1, 50} {
		q := with(t, plain, "a")
		wantReceived(t, q, 1, 1)
		wantTick(t, q, 9)
		wantReceived(t, q, 1)
		wantLeased(t, q, 1, 10)
		wantTick(t, q, 10+behind)
		wantLeased(t, q, 1, 0)
		wantVoid(t, q, "1.1")
		wantReceive(t, q, 1, 0, took(1, 2, "a", ""))
		wantLeased(t, q, 1, 20+behind)
	}
}

// A message is dead as soon as its lease ends, if it was received as often as it may be.
func TestP82Dead(t *testing.T) {
	for _, max := range []int{1, 2, 5, 100} {
		q := with(t, queue.Attr{Visible: 3, Retain: 1000, Max: max, Dead: "d"}, "body", "other")
		for n := range max - 1 {
			wantReceive(t, q, 1, 0, took(1, n+1, "body", ""))
			wantTick(t, q, 3*n+3)
		}
		wantReceive(t, q, 1, 0, took(1, max, "body", ""))
		wantTick(t, q, 3*max-1)
		wantIds(t, q, 1, 2)
		wantDead(t, q, 3*max, nil, queue.Letter{1, max, "body", ""})
		wantIds(t, q, 2)
		wantLeased(t, q, 1, 0)
		wantVoid(t, q, receiptOf(1, max))
		wantTick(t, q, 3*max)
		wantReceive(t, q, 2, 0, took(2, 1, "other", ""))
	}
}

// Without a Max, a message is never dead.
func TestP82NeverDead(t *testing.T) {
	q := with(t, queue.Attr{Visible: 1, Retain: 1000}, "a")
	for n := range 150 {
		wantReceive(t, q, 1, 0, took(1, n+1, "a", ""))
		wantTick(t, q, n+1)
	}
}

// The dead messages are in the order of their numbers, whichever lease ended first.
func TestP82DeadOrder(t *testing.T) {
	q := with(t, queue.Attr{Visible: 9, Retain: 100, Max: 1, Dead: "d", Fifo: true}, "a", "b", "c", "d", "e")
	for i, visible := range []int{7, 3, 0, 8, 2} {
		wantReceive(t, q, 1, visible, took(i+1, 1, string(rune('a'+i)), string(rune('a'+i))))
	}
	wantDead(t, q.Copy(), 2, nil, queue.Letter{5, 1, "e", "e"})
	wantDead(t, q, 8, nil, queue.Letter{1, 1, "a", "a"}, queue.Letter{2, 1, "b", "b"}, queue.Letter{4, 1, "d", "d"}, queue.Letter{5, 1, "e", "e"})
	wantIds(t, q, 3)
	wantDead(t, q, 9, nil, queue.Letter{3, 1, "c", "c"})
}

// A lease that is extended ends later; one that is given up by an Extend of 0 does not have its message die.
func TestP82DeadExtend(t *testing.T) {
	q := with(t, queue.Attr{Visible: 10, Retain: 100, Max: 1, Dead: "d"}, "a", "b")
	wantReceived(t, q, 2, 1, 2)
	wantExtend(t, q, api.OK, "1.1", 20)
	wantExtend(t, q, api.OK, "2.1", 0)
	wantTick(t, q, 19)
	wantReceive(t, q, 2, 0, took(2, 2, "b", ""))
	wantDead(t, q, 20, nil, queue.Letter{1, 1, "a", ""})
	wantDead(t, q, 29, nil, queue.Letter{2, 2, "b", ""})
}

// A message expires Retain ticks after it was sent, be it leased, delayed, or waiting.
func TestP82Expired(t *testing.T) {
	q := queue.New(queue.Attr{Visible: 500, Retain: 30})
	wantSend(t, q, 1, "leased", "", "", -1)
	wantSend(t, q, 2, "delayed", "", "", 100)
	wantSend(t, q, 3, "waits", "", "", -1)
	wantReceived(t, q, 1, 1)
	wantTick(t, q, 1)
	wantSend(t, q, 4, "later", "", "", -1)
	wantTick(t, q, 29)
	wantIds(t, q, 1, 2, 3, 4)
	wantTick(t, q, 30, 1, 2, 3)
	wantIds(t, q, 4)
	wantLeased(t, q, 1, 0)
	wantVoid(t, q, "1.1")
	wantReceive(t, q, 9, 0, took(4, 1, "later", ""))
	wantTick(t, q, 100, 4)
	wantIds(t, q)
	wantTick(t, q, 600)
	wantReceived(t, q, 9)
}

// A message whose lease ends at the Tick that has it expire is a dead one, if it was received often enough.
func TestP82DeadFirst(t *testing.T) {
	q := with(t, queue.Attr{Visible: 30, Retain: 30, Max: 2, Dead: "d"}, "a", "b", "c")
	wantReceive(t, q, 2, 5, took(1, 1, "a", ""), took(2, 1, "b", ""))
	wantTick(t, q, 5)
	wantReceive(t, q, 1, 20, took(1, 2, "a", ""))
	wantReceive(t, q, 1, 26, took(2, 2, "b", ""))
	wantReceive(t, q, 1, 25, took(3, 1, "c", ""))
	wantDead(t, q, 30, []int{2, 3}, queue.Letter{1, 2, "a", ""})
	wantIds(t, q)
	wantTick(t, q, 31)
}

// A key is forgotten when the time is the one until which it is known.
func TestP82Keys(t *testing.T) {
	q := queue.New(keyed)
	wantTick(t, q, 5)
	wantSend(t, q, 1, "a", "", "k", -1)
	wantTick(t, q, 6)
	wantSend(t, q, 2, "b", "", "l", -1)
	wantTick(t, q, 24)
	wantSend(t, q, 1, "c", "", "k", -1) // this does not have it be known for longer
	wantTick(t, q, 25)
	wantSend(t, q, 2, "c", "", "l", -1)
	wantSend(t, q, 3, "c", "", "k", -1)
	wantTick(t, q, 44)
	wantSend(t, q, 3, "c", "", "k", -1)
	wantSend(t, q, 4, "c", "", "l", -1)
	wantTick(t, q, 1000, 1, 2, 3, 4)
	wantSend(t, q, 5, "c", "", "k", -1)
}

// The time of a queue is what it was told last, and does not change by itself.
func TestP81Now(t *testing.T) {
	q := with(t, plain, "a")
	if q.Now() != 0 {
		t.Error("Now is", q.Now())
	}
	for _, now := range []int{0, 1, 1, 90, api.MaxTime} {
		q.Tick(now)
		wantReceived(t, q.Copy(), 1, q.Ids()...)
		if q.Now() != now {
			t.Error("Now is", q.Now(), "not", now)
		}
	}
}

func TestP83Wrong(t *testing.T) {
	long, edge := strings.Repeat("x", 257), strings.Repeat("x", 256)
	for _, c := range []struct {
		a                queue.Attr
		body, group, key string
		delay            int
		want             api.Errno
	}{
		{plain, "", "", "", -1, api.OK},
		{plain, "", "", "", 0, api.OK},
		{plain, "", "", "", much, api.OK},
		{plain, "", "", "", much + 1, api.ErrArg},
		{plain, "", "", "", -2, api.ErrArg},
		{plain, "", "", "", least, api.ErrArg},
		{plain, "", "", "", most, api.ErrArg},
		{plain, "", "g", "", -1, api.ErrArg},
		{plain, "", "\x00", "", 0, api.ErrArg},
		{plain, edge, "", edge, 1, api.OK},
		{plain, long, "", "", -1, api.ErrArg},
		{plain, "", long, "", -1, api.ErrArg},
		{plain, "", edge, "", -1, api.ErrArg},
		{plain, "", "", long, -1, api.ErrArg},
		{plain, strings.Repeat("é", 128), "", "", -1, api.OK},
		{plain, strings.Repeat("é", 129), "", "", -1, api.ErrArg},
		{plain, strings.Repeat("x", 1<<20), "", "", -1, api.ErrArg},
		{fifo, "", "g", "", -1, api.OK},
		{fifo, edge, edge, edge, -1, api.OK},
		{fifo, "", "", "", -1, api.ErrArg},
		{fifo, "", "g", "", 0, api.ErrArg},
		{fifo, "", "g", "", 1, api.ErrArg},
		{fifo, "", "g", "", -2, api.ErrArg},
		{fifo, "", "g", "", much, api.ErrArg},
		{fifo, "", "g", "", least, api.ErrArg},
		{fifo, long, "g", "", -1, api.ErrArg},
		{fifo, "", long, "", -1, api.ErrArg},
		{fifo, "", "g", long, -1, api.ErrArg},
	} {
		q := queue.New(c.a)
		if c.want == api.OK {
			wantSend(t, q, 1, c.body, c.group, c.key, c.delay)
			continue
		}
		wantNoSend(t, q, c.want, c.body, c.group, c.key, c.delay)
		wantIds(t, q)
		wantSend(t, q, 1, "x", map[bool]string{true: "g"}[c.a.Fifo], "", -1) // no number was used up
	}
}

// A message waits until its delay is over, the queue's own if there is -1 in its place.
func TestP83Delay(t *testing.T) {
	for _, c := range []struct{ own, delay, want int }{
		{0, -1, 0}, {0, 0, 0}, {0, 1, 1}, {0, 60, 60}, {5, -1, 5}, {5, 0, 0}, {5, 1, 1}, {5, 60, 60}, {60, -1, 60},
	} {
		q := queue.New(queue.Attr{Visible: 10, Retain: 1000, Delay: c.own})
		wantTick(t, q, 7)
		wantSend(t, q, 1, "x", "", "", c.delay)
		wantLeased(t, q, 1, 0)
		if c.want > 0 {
			wantReceived(t, q, 1)
			wantTick(t, q, 7+c.want-1)
			wantReceived(t, q, 1)
		}
		wantTick(t, q, 7+c.want)
		wantReceive(t, q, 1, 0, took(1, 1, "x", ""))
	}
	f := queue.New(queue.Attr{Visible: 10, Retain: 1000, Delay: 5, Fifo: true})
	wantSend(t, f, 1, "x", "g", "", -1)
	wantTick(t, f, 4)
	wantReceived(t, f, 1)
	wantTick(t, f, 5)
	wantReceive(t, f, 1, 0, took(1, 1, "x", "g"))
}

// With a key that is known, a Send is one that was done: of the other arguments, nothing stays.
func TestP83Key(t *testing.T) {
	q := queue.New(keyed)
	wantSend(t, q, 1, "a", "", "k", -1)
	wantSend(t, q, 2, "b", "", "l", -1)
	wantSend(t, q, 1, "c", "", "k", 9)
	wantSend(t, q, 2, "b", "", "l", -1)
	wantSend(t, q, 3, "c", "", "", -1)
	wantSend(t, q, 4, "c", "", "", -1) // an empty key is none
	wantSend(t, q, 5, "c", "", "K", -1)
	wantSend(t, q, 6, "c", "", "k\x00", -1)
	wantReceive(t, q, 3, 0, took(1, 1, "a", ""), took(2, 1, "b", ""), took(3, 1, "c", ""))
	wantAck(t, q, "1.1")
	wantSend(t, q, 1, "a", "", "k", -1) // the message is gone, and its key is not
	q.Purge()
	wantSend(t, q, 2, "b", "", "l", -1)
	wantIds(t, q)
	wantNoSend(t, q, api.ErrArg, "a", "", "k", -2) // the first error
	wantNoSend(t, q, api.ErrArg, "a", "g", "k", -1)
	wantNoSend(t, q, api.ErrArg, strings.Repeat("x", 257), "", "k", -1)
	wantTick(t, q, 20)
	wantSend(t, q, 7, "a", "", "k", -1)
}

// Without a Window, no key is known.
func TestP83NoWindow(t *testing.T) {
	q := queue.New(plain)
	wantSend(t, q, 1, "a", "", "k", -1)
	wantSend(t, q, 2, "a", "", "k", -1)
	wantSet(t, q, keyed)
	wantSend(t, q, 3, "a", "", "k", -1)
	wantSend(t, q, 3, "a", "", "k", -1)
}

// The groups do not have keys of their own.
func TestP83KeyGroups(t *testing.T) {
	a := keyed
	a.Fifo = true
	q := queue.New(a)
	wantSend(t, q, 1, "a", "g", "k", -1)
	wantSend(t, q, 1, "b", "h", "k", -1)
	wantNoSend(t, q, api.ErrArg, "a", "", "k", -1)
	wantReceive(t, q, 10, 0, took(1, 1, "a", "g"))
}

// 2^10 messages have room, whatever they do: a key that is known, and an argument that is wrong, come first.
func TestP83FullOfMessages(t *testing.T) {
	q := queue.New(keyed)
	for i := range api.MaxQueue {
		wantSend(t, q, i+1, "x", "", map[bool]string{true: "k"}[i == 0], i%2*5)
	}
	wantReceived(t, q, 2, 1, 3)
	full := func() {
		t.Helper()
		wantNoSend(t, q, api.ErrFull, "x", "", "", -1)
		wantNoSend(t, q, api.ErrFull, "x", "", "m", 9)
		wantNoSend(t, q, api.ErrArg, "x", "g", "", -1)
		wantNoSend(t, q, api.ErrArg, "x", "", "m", -2)
		wantSend(t, q, 1, "x", "", "k", -1)
		if len(q.Ids()) != api.MaxQueue {
			t.Fatal(len(q.Ids()), "messages are there")
		}
	}
	full()
	wantAck(t, q, "3.1")
	wantSend(t, q, 1025, "x", "", "l", -1) // and not the number that it did not get
	full()
	wantTick(t, q, 20)
	wantNoSend(t, q, api.ErrFull, "x", "", "k", -1)
	if n := q.Purge(); n != api.MaxQueue {
		t.Error("Purge:", n)
	}
	wantSend(t, q, 1026, "x", "", "k", -1)
}

// 2^12 keys have room: without a key, or a Window, a message is sent all the same.
func TestP83FullOfKeys(t *testing.T) {
	q := queue.New(keyed)
	for i := range 1 << 12 {
		if i%api.MaxQueue == 0 {
			q.Purge()
			wantTick(t, q, i/api.MaxQueue)
		}
		wantSend(t, q, i+1, "x", "", "key "+strconv.Itoa(i), -1)
	}
	q.Purge()
	wantNoSend(t, q, api.ErrFull, "x", "", "k", -1)
	wantNoSend(t, q.Copy(), api.ErrFull, "x", "", "k", -1)
	wantNoSend(t, q, api.ErrArg, "x", "g", "k", -1)
	wantSend(t, q, 4096, "x", "", "key 4095", -1)
	wantIds(t, q)
	wantSend(t, q, 4097, "x", "", "", -1)
	wantSet(t, q, plain)
	wantSend(t, q, 4098, "x", "", "k", -1)
	wantSet(t, q, keyed)
	wantNoSend(t, q, api.ErrFull, "x", "", "k", -1)
	wantTick(t, q, 20)
	wantSend(t, q, 4099, "x", "", "k", -1) // the first 1024 keys are forgotten
	wantSend(t, q, 4099, "x", "", "k", -1)
	wantSend(t, q, 4100, "x", "", "key 1023", -1)
	wantSend(t, q, 1025, "x", "", "key 1024", -1)
	wantIds(t, q, 4097, 4098, 4099, 4100)
}

// A number is used once: no removal gives it free.
func TestP83Numbers(t *testing.T) {
	q := with(t, deadly, "a", "b")
	q.Purge()
	wantSend(t, q, 3, "c", "", "", -1)
	wantReceived(t, q, 1, 3)
	wantAck(t, q, "3.1")
	wantSend(t, q, 4, "d", "", "", -1)
	wantTick(t, q, 100, 4)
	wantSend(t, q, 5, "e", "", "", -1)
	wantReceived(t, q, 1, 5)
	wantTick(t, q, 110)
	wantReceived(t, q, 1, 5)
	wantDead(t, q, 120, nil, queue.Letter{5, 2, "e", ""})
	wantSend(t, q, 6, "f", "", "", -1)
}

func TestP84Wrong(t *testing.T) {
	for _, a := range []queue.Attr{plain, fifo} {
		p := newPair(a)
		p.send(t, "x", map[bool]string{true: "g"}[a.Fifo], "", -1)
		for _, c := range []struct{ n, visible int }{
			{0, 0}, {11, 0}, {-1, 0}, {least, 0}, {most, 0}, {1, -1}, {1, much + 1}, {1, least}, {10, most}, {0, -1}, {most, most},
		} {
			if l, e := p.q.Receive(c.n, c.visible); len(l) > 0 || e != api.ErrArg {
				t.Errorf("Receive of %d, %d: %v, %v", c.n, c.visible, l, e)
			}
			p.wantAll(t)
		}
		for _, visible := range []int{-1, much + 1, least, most} {
			wantExtend(t, p.q, api.ErrArg, "1.1", visible) // the first error
			p.wantAll(t)
		}
		p.receive(t, 1, 0)
		for _, visible := range []int{-1, much + 1, least, most} {
			wantExtend(t, p.q, api.ErrArg, "1.1", visible)
			p.wantAll(t)
		}
	}
}

// As many messages are received as there are, and no more than asked for; the first ones first.
func TestP84ReceiveN(t *testing.T) {
	for n := 1; n <= 10; n++ {
		q := with(t, plain, strings.Split("abcdefghijkl", "")...)
		var want []queue.Took
		for i := range 12 {
			want = append(want, took(i+1, 1, string(rune('a'+i)), ""))
		}
		for len(want) > 0 {
			wantReceive(t, q, n, 0, want[:min(n, len(want))]...)
			want = want[min(n, len(want)):]
		}
		wantReceive(t, q, n, 0)
		wantIds(t, q, 1, 2, 3, 4, 5, 6, 7, 8, 9, 10, 11, 12)
	}
}

// Of those that wait, the first is that with the least number, whichever waited for longer.
func TestP84ReceiveOrder(t *testing.T) {
	q := queue.New(plain)
	for i, delay := range []int{3, 0, 2, 0, 9, 1} {
		wantSend(t, q, i+1, "x", "", "", delay)
	}
	wantReceived(t, q.Copy(), 10, 2, 4)
	wantReceived(t, q, 1, 2)
	wantTick(t, q, 3)
	wantReceived(t, q, 2, 1, 3)
	wantReceived(t, q, 2, 4, 6)
	wantReceived(t, q, 2)
	wantTick(t, q, 11)
	wantReceived(t, q, 2, 2, 5)
	wantTick(t, q, 13)
	wantReceived(t, q, 10, 1, 3, 4, 6)
}

// A lease lasts for what Receive is told, or else for the queue's own duration.
func TestP84Visible(t *testing.T) {
	for _, c := range []struct{ visible, want int }{{0, 10}, {1, 1}, {9, 9}, {11, 11}, {much, much}} {
		q := with(t, queue.Attr{Visible: 10, Retain: much}, "a")
		wantTick(t, q, 5)
		wantSend(t, q, 2, "b", "", "", -1)
		wantReceive(t, q, 1, c.visible, took(1, 1, "a", ""))
		wantLeased(t, q, 1, 5+c.want)
		wantLeased(t, q, 2, 0)
		if c.want < much {
			wantTick(t, q, 5+c.want)
			wantLeased(t, q, 1, 0)
		}
	}
}

// Of a group, only the first message is received; of all groups, in the order of the numbers.
func TestP84Fifo(t *testing.T) {
	q := with(t, fifo, "b1", "a1", "b2", "c1", "a2", "c2", "b3")
	wantReceive(t, q, 2, 0, took(1, 1, "b1", "b"), took(2, 1, "a1", "a"))
	wantReceive(t, q, 10, 0, took(4, 1, "c1", "c"))
	wantReceive(t, q, 10, 0)
	wantAck(t, q, "4.1", "1.1")
	wantReceive(t, q, 10, 0, took(3, 1, "b2", "b"), took(6, 1, "c2", "c"))
	wantAck(t, q, "3.1")
	wantExtend(t, q, api.OK, "2.1", 0)
	wantReceive(t, q, 1, 0, took(2, 2, "a1", "a"))
	wantReceive(t, q, 10, 0, took(7, 1, "b3", "b"))
	wantIds(t, q, 2, 5, 6, 7)
}

// The first message of a group blocks the later ones as long as it is there, even one that waits for longer than they.
func TestP85FifoBlocks(t *testing.T) {
	a := fifo
	a.Delay = 30
	q := queue.New(a)
	wantSend(t, q, 1, "a", "g", "", -1)
	wantSet(t, q, fifo)
	wantSend(t, q, 2, "b", "g", "", -1)
	wantSend(t, q, 3, "c", "h", "", -1)
	wantReceived(t, q, 10, 3)
	wantAck(t, q, "3.1")
	wantTick(t, q, 29)
	wantReceived(t, q, 10)
	wantTick(t, q, 30)
	wantReceived(t, q, 10, 1)
	wantReceived(t, q, 10)
	wantTick(t, q, 40)
	wantReceived(t, q, 10, 1)
	wantAck(t, q, "1.2")
	wantReceived(t, q, 10, 2)
}

// When the first message of a group is dead, or expires, the next one is the first.
func TestP85FifoNext(t *testing.T) {
	a := deadly
	a.Fifo, a.Max = true, 1
	q := with(t, a, "a1", "a2")
	wantTick(t, q, 50)
	wantSend(t, q, 3, "a3", "a", "", -1)
	wantReceived(t, q, 10, 1)
	wantDead(t, q, 60, nil, queue.Letter{1, 1, "a1", "a"})
	wantReceive(t, q, 10, 90, took(2, 1, "a2", "a"))
	wantTick(t, q, 99)
	wantReceived(t, q, 10)
	wantTick(t, q, 100, 2)
	wantReceive(t, q, 10, 0, took(3, 1, "a3", "a"))
	q.Purge()
	wantSend(t, q, 4, "a4", "a", "", -1)
	wantReceive(t, q, 10, 0, took(4, 1, "a4", "a"))
}

func TestP84Ack(t *testing.T) {
	q := with(t, plain, strings.Split("abcdefghijkl", "")...)
	wantReceived(t, q, 10, 1, 2, 3, 4, 5, 6, 7, 8, 9, 10)
	wantReceived(t, q, 1, 11)
	wantAck(t, q, "3.1", "11.1")
	wantIds(t, q, 1, 2, 4, 5, 6, 7, 8, 9, 10, 12)
	wantLeased(t, q, 3, 0)
	wantVoid(t, q, "3.1", "11.1", "12.1", "12.0")
	wantTick(t, q, 10)
	wantReceived(t, q, 3, 1, 2, 4)
	wantAck(t, q, "4.2")
	wantIds(t, q, 1, 2, 5, 6, 7, 8, 9, 10, 12)
}

// A receipt is one text: no other way to write its numbers is it.
func TestP84WrongReceipts(t *testing.T) {
	q := with(t, plain, "a", "b")
	wantReceived(t, q, 1, 1)
	wantVoid(t, q, "", ".", "1", "1.", ".1", "1.0", "1.2", "1.11", "2.1", "2.0", "0.1", "0.0", "-1.1", "+1.1", "1.+1", "01.1", "1.01", "1,1",
		" 1.1", "1.1 ", "1 .1", "1..1", "1.1.", "1.1.1", "1.1\x00", "\x001.1", "1.1\n", "1.1e0", "0x1.1", "1_0.1", "١.١", "a.b", "1.-1",
		"9223372036854775807.1", "9223372036854775808.1", "-9223372036854775808.1", "18446744073709551617.1", "1.18446744073709551617",
		"4294967297.1", "1.4294967297", strings.Repeat("1", 1<<20), "1."+strings.Repeat("0", 1<<20)+"1")
	wantLeased(t, q, 1, 10)
	wantLeased(t, q, 2, 0)
	wantAck(t, q, "1.1")
}

func TestP84Extend(t *testing.T) {
	q := with(t, plain, "a", "b")
	wantReceived(t, q, 2, 1, 2)
	wantTick(t, q, 4)
	for _, visible := range []int{1, much, 3, 20, 6} {
		wantExtend(t, q, api.OK, "1.1", visible)
		wantLeased(t, q, 1, 4+visible)
		wantLeased(t, q, 2, 10)
	}
	wantExtend(t, q, api.OK, "2.1", 7)
	wantTick(t, q, 10)
	wantReceive(t, q, 2, 0, took(1, 2, "a", ""))
	wantTick(t, q, 11)
	wantReceive(t, q, 2, 0, took(2, 2, "b", ""))
	wantExtend(t, q, api.OK, "2.2", 50)
	wantAck(t, q, "2.2") // with the same receipt
	wantIds(t, q, 1)
}

// After an Extend of 0 a message waits, until now, and has a new receipt when it is received again.
func TestP84ExtendNought(t *testing.T) {
	q := queue.New(plain)
	wantSend(t, q, 1, "a", "", "", 3)
	wantTick(t, q, 3)
	wantReceived(t, q, 1, 1)
	wantTick(t, q, 8)
	wantExtend(t, q, api.OK, "1.1", 0)
	wantLeased(t, q, 1, 0)
	wantVoid(t, q, "1.1")
	wantReceive(t, q.Copy(), 1, 0, took(1, 2, "a", ""))
	wantTick(t, q, 13) // when the lease would have ended
	wantReceive(t, q, 1, 0, took(1, 2, "a", ""))
	wantVoid(t, q, "1.1", "1.0", "1.3")
	wantLeased(t, q, 1, 23)
	wantExtend(t, q, api.OK, "1.2", 0)
	wantReceive(t, q, 1, 0, took(1, 3, "a", ""))
}

func TestP84Purge(t *testing.T) {
	for _, a := range []queue.Attr{plain, fifo} {
		q := with(t, a, "a", "b", "c", "d")
		wantTick(t, q, 3)
		wantReceived(t, q, 2, 1, 2)
		if n := q.Purge(); n != 4 {
			t.Error("Purge:", n)
		}
		wantIds(t, q)
		wantLeased(t, q, 1, 0)
		wantVoid(t, q, "1.1", "2.1")
		if n := q.Purge(); n != 0 || q.Now() != 3 || q.Attr() != a {
			t.Error("Purge:", n, q.Now(), q.Attr())
		}
		wantReceived(t, q, 10)
		wantTick(t, q, 200)
	}
}

// A receipt has no effect after the message was acked, after its lease ended, and after it was received again.
func TestP85OldReceipts(t *testing.T) {
	q := with(t, plain, "a", "b", "c")
	wantReceived(t, q, 3, 1, 2, 3)
	wantAck(t, q, "1.1")
	wantVoid(t, q, "1.1")
	wantTick(t, q, 10)
	wantVoid(t, q, "1.1", "2.1", "3.1")
	wantReceived(t, q, 1, 2)
	wantVoid(t, q, "1.1", "2.1", "3.1", "3.2")
	wantLeased(t, q, 2, 20)
	wantAck(t, q, "2.2")
	wantVoid(t, q, "2.1", "2.2")
	wantIds(t, q, 3)
}

// What is returned is new memory: the queue does not change when it does, nor it when the queue does.
func TestP84NewMemory(t *testing.T) {
	p := newPair(queue.Attr{Visible: 10, Retain: 40, Max: 1, Dead: "d", Fifo: true})
	for _, group := range []string{"a", "b", "a", "c", "d"} {
		p.send(t, "x", group, "", -1)
	}
	ids, again := p.q.Ids(), p.q.Ids()
	clear(ids[:cap(ids)])
	p.wantAll(t)
	c := p.q.Copy()
	l, _ := c.Receive(3, 0)
	other, _ := c.Receive(3, 0)
	clear(l[:cap(l)])
	if !slices.Equal(other, []queue.Took{took(5, 1, "x", "d")}) || !slices.Equal(again, []int{1, 2, 3, 4, 5}) {
		t.Error("lists of other calls changed:", other, again)
	}
	wantLeased(t, c, 1, 10)
	dead, _ := c.Tick(10)
	clear(dead[:cap(dead)])
	wantIds(t, c, 3)
	_, gone := c.Tick(40)
	c.Send("y", "a", "", -1)
	if !slices.Equal(gone, []int{3}) {
		t.Error("expired:", gone)
	}
	clear(gone[:cap(gone)])
	wantReceive(t, c, 9, 0, took(6, 1, "y", "a"))
	p.wantAll(t)
}

// Equal calls have equal results, whatever the order of a map is.
func TestP85Determinism(t *testing.T) {
	for range 30 {
		a := deadly
		a.Fifo, a.Max = true, 1
		q := with(t, a, strings.Split("zyxwvutsrqponmlkjihgfedcba", "")...)
		wantReceived(t, q, 10, 1, 2, 3, 4, 5, 6, 7, 8, 9, 10)
		q = q.Copy()
		wantReceived(t, q, 5, 11, 12, 13, 14, 15)
		dead, gone := q.Tick(100)
		for i, x := range dead {
			if x.Id != i+1 || x.Body != string(rune('z'-i)) {
				t.Fatal("dead:", dead)
			}
		}
		if len(dead) != 15 || !slices.Equal(gone, []int{16, 17, 18, 19, 20, 21, 22, 23, 24, 25, 26}) {
			t.Fatal("dead:", dead, "expired:", gone)
		}
	}
}

// All calls end soon, in a queue that is full, and whatever was there before.
func TestP84Many(t *testing.T) {
	for _, a := range []queue.Attr{{Visible: 5, Retain: much}, {Visible: 5, Retain: much, Fifo: true}} {
		q, sent := queue.New(a), 0
		for round := range 20 {
			for len(q.Ids()) < api.MaxQueue {
				sent++
				wantSend(t, q, sent, "x", map[bool]string{true: "g" + strconv.Itoa(sent%300)}[a.Fifo], "", -1)
				if sent%64 > 0 {
					continue
				}
				l, _ := q.Receive(10, 0)
				for _, x := range l {
					wantAck(t, q, x.Receipt)
				}
			}
			wantTick(t, q, 3*round)
		}
		if sent != q.Ids()[api.MaxQueue-1] {
			t.Error(sent, "were sent")
		}
	}
}
