package shop_test

import (
	"math"
	"slices"
	"strconv"
	"strings"
	"testing"

	"daisychain/api"
	"daisychain/queue"
	"daisychain/shop"
)

// least and most are the least and the greatest number; much is the greatest one of most attributes.
const (
	least, most = math.MinInt, math.MaxInt
	much        = 1 << 20
)

// plain and fifo are attributes: of a simple queue, and of one with groups.
var (
	plain = queue.Attr{Visible: 10, Retain: 100}
	fifo  = queue.Attr{Visible: 10, Retain: 100, Fifo: true}
)

// deadly are attributes with which a message that was received once moves to another queue.
func deadly(dead string) queue.Attr {
	return queue.Attr{Visible: 10, Retain: 100, Max: 1, Dead: dead}
}

// want executes a command, and checks its answer.
func want(t testing.TB, s *shop.Shop, c shop.Cmd, a shop.Answer) {
	t.Helper()
	if got := s.Apply(c); !equal(got, a) {
		t.Fatalf("Apply of %.99v: %v, not %v", c, got, a)
	}
}

// wantError executes commands, and checks that the answers are this error, and nothing else; each one is executed for a
// client, too, and is its last one then.
func wantError(t testing.TB, s *shop.Shop, e api.Errno, commands ...shop.Cmd) {
	t.Helper()
	for _, c := range commands {
		want(t, s, c, failed(e))
		c.Client, c.Req = 64, c.Req+1
		r := s.Copy()
		want(t, r, c, failed(e))
		if req, a, is := r.Last(64); req != c.Req || !equal(a, failed(e)) || !is {
			t.Fatalf("Last after %.99v: %d, %v, %v", c, req, a, is)
		}
	}
}

// wantTick has time go on, and checks how many messages moved, were lost, and expired.
func wantTick(t testing.TB, s *shop.Shop, now, moved, lost, expired int) {
	t.Helper()
	want(t, s, tick(now), ids(moved, lost, expired))
	if s.Now() != now {
		t.Fatalf("Now is %d, not %d", s.Now(), now)
	}
}

// wantReceived receives all that a queue has now, and checks it.
func wantReceived(t testing.TB, s *shop.Shop, name string, l ...queue.Took) {
	t.Helper()
	want(t, s, receive(name, 10), shop.Answer{Took: l})
}

// wantNames checks which queues are there.
func wantNames(t testing.TB, s *shop.Shop, l ...string) {
	t.Helper()
	if got := s.Names(); !slices.Equal(got, l) {
		t.Fatalf("Names: %q, not %q", got, l)
	}
}

// wantIds checks which messages a queue has.
func wantIds(t testing.TB, s *shop.Shop, name string, l ...int) {
	t.Helper()
	if got := theQueue(t, s, name).Ids(); !slices.Equal(got, l) {
		t.Fatalf("Ids of %q: %v, not %v", name, got, l)
	}
}

// theQueue is a queue that is there.
func theQueue(t testing.TB, s *shop.Shop, name string) *queue.Queue {
	t.Helper()
	q, is := s.Queue(name)
	if q == nil || !is {
		t.Fatalf("Queue of %q: %v, %v", name, q, is)
	}
	return q
}

func tick(now int) shop.Cmd { return shop.Cmd{Kind: shop.Tick, N: now} }

func create(name string, a queue.Attr) shop.Cmd {
	return shop.Cmd{Kind: shop.Create, Queue: name, A: a}
}

func send(name, body, group string) shop.Cmd {
	return shop.Cmd{Kind: shop.Send, Queue: name, Body: body, Group: group, N: -1}
}

func batch(name, group string, bodies ...string) shop.Cmd {
	return shop.Cmd{Kind: shop.Batch, Queue: name, Bodies: bodies, Group: group, N: -1}
}

func receive(name string, n int) shop.Cmd {
	return shop.Cmd{Kind: shop.Receive, Queue: name, N: n}
}

func ack(name, receipt string) shop.Cmd {
	return shop.Cmd{Kind: shop.Ack, Queue: name, Receipt: receipt}
}

// by is the command of a client.
func by(client, req int, c shop.Cmd) shop.Cmd {
	c.Client, c.Req = client, req
	return c
}

// took is a message that was received once.
func took(id int, body, group string) queue.Took {
	return queue.Took{Id: id, Count: 1, Receipt: strconv.Itoa(id) + ".1", Body: body, Group: group}
}

// with is a shop with queues, which are plain ones.
func with(t testing.TB, names ...string) *shop.Shop {
	t.Helper()
	s := shop.New()
	for _, name := range names {
		want(t, s, create(name, plain), shop.Answer{})
	}
	return s
}

func TestP94Example(t *testing.T) {
	s := shop.New()
	want(t, s, create("a", plain), shop.Answer{})
	want(t, s, send("a", "x", ""), ids(1))
	want(t, s, receive("a", 1), shop.Answer{Took: []queue.Took{took(1, "x", "")}})
}

func TestP91New(t *testing.T) {
	s := shop.New()
	wantNames(t, s)
	if s.Now() != 0 {
		t.Error("Now:", s.Now())
	}
	for _, name := range []string{"", "a", strings.Repeat("a", 65)} {
		if q, is := s.Queue(name); q != nil || is {
			t.Errorf("Queue of %q: %v, %v", name, q, is)
		}
	}
	for _, client := range []int{least, -1, 0, 1, 64, most} {
		if req, a, is := s.Last(client); req != 0 || !equal(a, shop.Answer{}) || is {
			t.Error("Last of", client, req, a, is)
		}
	}
	want(t, s, create("a", plain), shop.Answer{})
	wantNames(t, shop.New())
}

func TestP91Kinds(t *testing.T) {
	kinds := []int{shop.Tick, shop.Create, shop.Delete, shop.Set, shop.Purge, shop.Send, shop.Batch, shop.Receive, shop.Ack, shop.Extend}
	for i, kind := range kinds {
		if kind != i {
			t.Error(kind, "is not", i)
		}
	}
}

// Names are in the order of their bytes, in whatever order the queues came.
func TestP91Names(t *testing.T) {
	s := with(t, "b", "a", "é", "aa", "B", "\xff", "\x00", "10", "9", "z")
	wantNames(t, s, "\x00", "10", "9", "B", "a", "aa", "b", "z", "é", "\xff")
	l, again := s.Names(), s.Names()
	clear(l[:cap(l)])
	wantNames(t, s, again...)
	want(t, s, shop.Cmd{Kind: shop.Delete, Queue: "a"}, ids(0))
	wantNames(t, s, "\x00", "10", "9", "B", "aa", "b", "z", "é", "\xff")
}

// Queue returns the queue itself: what one does to it happens in the shop, and the other way round.
func TestP91Queue(t *testing.T) {
	s := with(t, "a", "b")
	q := theQueue(t, s, "a")
	if id, e := q.Send("x", "", "", -1); id != 1 || e != api.OK {
		t.Error("Send:", id, e)
	}
	want(t, s, send("a", "y", ""), ids(2))
	if theQueue(t, s, "a") != q || theQueue(t, s, "b") == q || !slices.Equal(q.Ids(), []int{1, 2}) {
		t.Error("not the queue itself:", q.Ids())
	}
	wantIds(t, s, "b")
	wantReceived(t, s, "a", took(1, "x", ""), took(2, "y", ""))
	want(t, s, shop.Cmd{Kind: shop.Delete, Queue: "a"}, ids(2))
	if q, is := s.Queue("a"); q != nil || is {
		t.Error("Queue after Delete:", q, is)
	}
	want(t, s, create("a", fifo), shop.Answer{})
	if theQueue(t, s, "a") == q {
		t.Error("the queue that was removed is there again")
	}
}

// Last is of the client, and of its last command only.
func TestP91Last(t *testing.T) {
	s := with(t, "a")
	want(t, s, by(1, 5, send("a", "x", "")), ids(1))
	want(t, s, by(2, 3, receive("a", 1)), shop.Answer{Took: []queue.Took{took(1, "x", "")}})
	want(t, s, by(1, 9, ack("a", "1.2")), failed(api.ErrReceipt))
	want(t, s, by(0, 7, send("a", "y", "")), ids(2))
	want(t, s, by(-1, 7, send("a", "y", "")), failed(api.ErrArg))
	for _, c := range []struct {
		client, req int
		a           shop.Answer
	}{
		{1, 9, failed(api.ErrReceipt)},
		{2, 3, shop.Answer{Took: []queue.Took{took(1, "x", "")}}},
		{0, 0, shop.Answer{}}, {-1, 0, shop.Answer{}}, {3, 0, shop.Answer{}}, {least, 0, shop.Answer{}}, {most, 0, shop.Answer{}},
	} {
		if req, a, is := s.Last(c.client); req != c.req || !equal(a, c.a) || is != (c.req > 0) {
			t.Error("Last of", c.client, req, a, is)
		}
	}
}

func TestP91Copy(t *testing.T) {
	s := with(t, "a", "b")
	want(t, s, by(1, 1, send("a", "x", "")), ids(1))
	want(t, s, by(2, 1, receive("a", 1)), shop.Answer{Took: []queue.Took{took(1, "x", "")}})
	wantTick(t, s, 5, 0, 0, 0)
	c := s.Copy()
	change := func(s *shop.Shop) {
		want(t, s, by(1, 2, send("a", "y", "")), ids(2))
		want(t, s, by(3, 1, create("c", fifo)), shop.Answer{})
		want(t, s, shop.Cmd{Kind: shop.Delete, Queue: "b"}, ids(0))
		want(t, s, ack("a", "1.1"), ids(1))
		wantTick(t, s, 20, 0, 0, 0)
	}
	keep := func(s *shop.Shop) {
		t.Helper()
		wantNames(t, s, "a", "b")
		wantIds(t, s, "a", 1)
		if until, is := theQueue(t, s, "a").Leased(1); until != 10 || !is || s.Now() != 5 || theQueue(t, s, "a").Now() != 5 {
			t.Error("the other one changed:", until, is, s.Now(), theQueue(t, s, "a").Now())
		}
		if req, a, is := s.Last(1); req != 1 || !equal(a, ids(1)) || !is {
			t.Error("Last:", req, a, is)
		}
		if _, _, is := s.Last(3); is {
			t.Error("a client of the other one")
		}
	}
	change(c)
	keep(s)
	c = s.Copy()
	change(s)
	keep(c)
	change(c.Copy())
	change(c) // a copy does all that a shop does
}

func TestP91Same(t *testing.T) {
	full := func() shop.Answer {
		return shop.Answer{Code: 1, Ids: []int{2, 3}, Took: []queue.Took{took(4, "b", "g"), took(5, "b", "g")}}
	}
	same := []shop.Answer{{}, {Ids: []int{}}, {Took: []queue.Took{}}, {Ids: make([]int, 0, 9), Took: make([]queue.Took, 0, 9)}}
	for _, a := range same {
		for _, b := range same {
			if !shop.Same(a, b) {
				t.Errorf("Same of %#v, %#v", a, b)
			}
		}
	}
	changes := []func(a *shop.Answer){
		func(a *shop.Answer) { a.Code = 0 },
		func(a *shop.Answer) { a.Code = -1 },
		func(a *shop.Answer) { a.Ids = nil },
		func(a *shop.Answer) { a.Ids = a.Ids[:1] },
		func(a *shop.Answer) { a.Ids = append(a.Ids, 0) },
		func(a *shop.Answer) { a.Ids[0], a.Ids[1] = a.Ids[1], a.Ids[0] },
		func(a *shop.Answer) { a.Took = nil },
		func(a *shop.Answer) { a.Took = a.Took[:1] },
		func(a *shop.Answer) { a.Took = append(a.Took, queue.Took{}) },
		func(a *shop.Answer) { a.Took[0], a.Took[1] = a.Took[1], a.Took[0] },
		func(a *shop.Answer) { a.Took[1].Id = 6 },
		func(a *shop.Answer) { a.Took[1].Count = 6 },
		func(a *shop.Answer) { a.Took[1].Receipt = "6" },
		func(a *shop.Answer) { a.Took[1].Body = "" },
		func(a *shop.Answer) { a.Took[1].Group = "G" },
		func(a *shop.Answer) { *a = shop.Answer{} },
	}
	if !shop.Same(full(), full()) {
		t.Error("Same of equal ones")
	}
	for i, change := range changes {
		a := full()
		change(&a)
		if shop.Same(a, full()) || shop.Same(full(), a) || !shop.Same(a, a) {
			t.Error("Same after change", i, a)
		}
	}
}

func TestP92NegativeClient(t *testing.T) {
	s := with(t, "a")
	for _, client := range []int{-1, -64, least} {
		for _, c := range []shop.Cmd{send("a", "x", ""), tick(9), create("b", plain), {Kind: 10}, {Kind: shop.Purge, Queue: "c"}} {
			want(t, s, by(client, 1, c), failed(api.ErrArg))
			if _, _, is := s.Last(client); is {
				t.Error("a client", client)
			}
		}
	}
	wantNames(t, s, "a")
	wantIds(t, s, "a")
	if s.Now() != 0 {
		t.Error("Now:", s.Now())
	}
}

// A command that has the number of the client's last one has its answer, whatever it requests, and nothing happens.
func TestP92Again(t *testing.T) {
	s := with(t, "a")
	for i, c := range []struct {
		c shop.Cmd
		a shop.Answer
	}{
		{send("a", "x", ""), ids(1)},
		{batch("a", "", "y", "z"), ids(2, 3)},
		{batch("a", "", "v", strings.Repeat("w", 257)), shop.Answer{Code: 1, Ids: []int{4}}},
		{receive("a", 2), shop.Answer{Took: []queue.Took{took(1, "x", ""), took(2, "y", "")}}},
		{receive("a", 0), failed(api.ErrArg)},
		{ack("a", "1.1"), ids(1)},
		{create("b", plain), shop.Answer{}},
		{create("a", plain), failed(api.ErrTwice)},
		{shop.Cmd{Kind: 10}, failed(api.ErrArg)},
		{tick(7), ids(0, 0, 0)},
		{shop.Cmd{Kind: shop.Delete, Queue: "a"}, ids(3)},
		{ack("a", "2.1"), failed(api.ErrName)},
	} {
		req := 10 * i
		want(t, s, by(7, req, c.c), c.a)
		names, now := s.Names(), s.Now()
		for range 2 {
			want(t, s, by(7, req, c.c), c.a)
			want(t, s, by(7, req, send("a", "other", "")), c.a)
			want(t, s, by(7, req, tick(100)), c.a)
			want(t, s, by(7, req, shop.Cmd{Kind: most}), c.a)
			want(t, s.Copy(), by(7, req, c.c), c.a)
			want(t, s, by(7, req-1, c.c), failed(api.ErrOld))
			want(t, s, by(7, least, tick(100)), failed(api.ErrOld))
			if last, a, is := s.Last(7); last != req || !equal(a, c.a) || !is {
				t.Fatal("Last:", last, a, is)
			}
		}
		wantNames(t, s, names...)
		if s.Now() != now {
			t.Fatal("Now:", s.Now())
		}
	}
}

// The numbers of clients are independent, and need not be consecutive; a client may begin with any number.
func TestP92Numbers(t *testing.T) {
	s := with(t, "a")
	n := 0
	for _, c := range []struct{ client, req int }{
		{1, 1}, {2, 1}, {1, 2}, {3, 0}, {3, 1}, {4, -5}, {4, -4}, {4, 0}, {5, least}, {5, most}, {6, most}, {most, 1}, {1, 100}, {2, 99},
	} {
		n++
		want(t, s, by(c.client, c.req, send("a", "x", "")), ids(n))
		want(t, s, by(c.client, c.req, send("a", "x", "")), ids(n))
	}
	want(t, s, by(1, 99, send("a", "x", "")), failed(api.ErrOld))
	want(t, s, by(5, least, send("a", "x", "")), failed(api.ErrOld))
	for range 3 { // without a client there is no number
		n++
		want(t, s, by(0, 1, send("a", "x", "")), ids(n))
	}
}

func TestP92FullOfClients(t *testing.T) {
	s := with(t, "a")
	for client := 64; client > 0; client-- {
		want(t, s, by(1000*client, 1, send("a", "x", "")), ids(65-client))
	}
	for _, client := range []int{1, 65000, most} {
		want(t, s, by(client, 1, send("a", "x", "")), failed(api.ErrFull))
		want(t, s, by(client, 1, shop.Cmd{Kind: -1}), failed(api.ErrFull))
		want(t, s.Copy(), by(client, 1, tick(5)), failed(api.ErrFull))
		if _, _, is := s.Last(client); is {
			t.Error("a client", client)
		}
	}
	want(t, s, by(-1, 1, send("a", "x", "")), failed(api.ErrArg))
	want(t, s, by(64000, 1, send("a", "x", "")), ids(1))
	want(t, s, by(64000, 0, send("a", "x", "")), failed(api.ErrOld))
	want(t, s, by(1000, 2, send("a", "x", "")), ids(65))
	want(t, s, by(0, 1, send("a", "x", "")), ids(66))
}

// The last command of a client that has none counts also if it had an error.
func TestP92FullOfErrors(t *testing.T) {
	s := shop.New()
	for client := range 64 {
		want(t, s, by(client+1, 1, shop.Cmd{Kind: shop.Purge, Queue: "none"}), failed(api.ErrName))
	}
	want(t, s, by(65, 1, tick(1)), failed(api.ErrFull))
	want(t, s, by(64, 2, tick(1)), ids(0, 0, 0))
}

func TestP92WrongKinds(t *testing.T) {
	s := with(t, "a")
	for _, kind := range []int{-1, 10, 11, 256, -10, least, most} {
		for _, name := range []string{"a", "b", ""} {
			wantError(t, s, api.ErrArg, shop.Cmd{Kind: kind, Queue: name, A: plain, Bodies: []string{"x"}, N: 1})
		}
	}
	wantNames(t, s, "a")
	wantIds(t, s, "a")
}

// That there is no such queue comes before all else that is wrong with a command, but its Kind.
func TestP92NoSuchQueue(t *testing.T) {
	s := with(t, "a")
	want(t, s, send("a", "x", ""), ids(1))
	for kind := shop.Delete; kind <= shop.Extend; kind++ {
		for _, name := range []string{"", "b", "A", "aa", "a ", "a\x00", strings.Repeat("a", 65), strings.Repeat("a", much)} {
			wantError(t, s, api.ErrName, shop.Cmd{Kind: kind, Queue: name, N: 1, A: plain, Bodies: []string{"x"}, Receipt: "1.1"},
				shop.Cmd{Kind: kind, Queue: name, N: least, M: most, Bodies: make([]string, 11)})
		}
	}
	wantIds(t, s, "a", 1)
}

func TestP92Create(t *testing.T) {
	s := shop.New()
	for _, name := range []string{"", strings.Repeat("n", 65), strings.Repeat("é", 33), strings.Repeat("n", much)} {
		wantError(t, s, api.ErrArg, create(name, plain))
	}
	for _, a := range []queue.Attr{{}, {Visible: 1}, {Visible: much + 1, Retain: 1}, {Visible: 1, Retain: 1, Max: 1}, {Visible: 1, Retain: 1, Dead: "d"}} {
		wantError(t, s, api.ErrArg, create("a", a), create("", a))
	}
	wantNames(t, s)
	valid := []string{"a", "\x00", strings.Repeat("n", 64), strings.Repeat("é", 32), " ", "a b"}
	for i, name := range valid {
		a := queue.Attr{Visible: i + 1, Retain: i + 2, Delay: i, Window: i, Fifo: i%2 == 0}
		want(t, s, create(name, a), shop.Answer{})
		q := theQueue(t, s, name)
		if q.Attr() != a || q.Now() != 0 || len(q.Ids()) > 0 {
			t.Error("created:", q.Attr(), q.Now(), q.Ids())
		}
	}
	slices.Sort(valid)
	wantNames(t, s, valid...)
}

// A queue comes with the shop's time.
func TestP92CreateLater(t *testing.T) {
	s := with(t, "a")
	wantTick(t, s, 50, 0, 0, 0)
	want(t, s, create("b", plain), shop.Answer{})
	want(t, s, send("b", "x", ""), ids(1))
	if now := theQueue(t, s, "b").Now(); now != 50 {
		t.Error("Now of the queue:", now)
	}
	wantTick(t, s, 149, 0, 0, 0)
	wantTick(t, s, 150, 0, 0, 1)
	wantTick(t, s, api.MaxTime, 0, 0, 0)
	want(t, s, create("c", plain), shop.Answer{})
	if now := theQueue(t, s, "c").Now(); now != api.MaxTime {
		t.Error("Now of the queue:", now)
	}
}

func TestP92CreateTwice(t *testing.T) {
	s := with(t, "a")
	want(t, s, send("a", "x", ""), ids(1))
	wantError(t, s, api.ErrTwice, create("a", plain), create("a", fifo))
	wantError(t, s, api.ErrArg, create("a", queue.Attr{}))
	if q := theQueue(t, s, "a"); q.Attr() != plain {
		t.Error("Attr:", q.Attr())
	}
	wantIds(t, s, "a", 1)
}

func TestP92CreateFull(t *testing.T) {
	s := shop.New()
	for i := range 16 {
		want(t, s, create(strconv.Itoa(i), plain), shop.Answer{})
	}
	wantError(t, s, api.ErrFull, create("16", plain))
	wantError(t, s, api.ErrTwice, create("15", plain))
	wantError(t, s, api.ErrArg, create("16", queue.Attr{}), create("", plain), create(strings.Repeat("n", 65), plain))
	want(t, s, shop.Cmd{Kind: shop.Delete, Queue: "3"}, ids(0))
	want(t, s, create("16", plain), shop.Answer{})
	wantError(t, s, api.ErrFull, create("3", plain))
	if l := s.Names(); len(l) != 16 || slices.Contains(l, "3") || !slices.Contains(l, "16") {
		t.Error("Names:", l)
	}
}

func TestP92Delete(t *testing.T) {
	s := with(t, "a", "b", "c")
	want(t, s, batch("a", "", "x", "y", "z"), ids(1, 2, 3))
	want(t, s, send("b", "x", ""), ids(1))
	wantReceived(t, s, "a", took(1, "x", ""), took(2, "y", ""), took(3, "z", ""))
	want(t, s, send("a", "v", ""), ids(4))
	want(t, s, shop.Cmd{Kind: shop.Delete, Queue: "a"}, ids(4))
	wantNames(t, s, "b", "c")
	wantError(t, s, api.ErrName, shop.Cmd{Kind: shop.Delete, Queue: "a"}, shop.Cmd{Kind: shop.Purge, Queue: "a"}, send("a", "x", ""))
	want(t, s, shop.Cmd{Kind: shop.Delete, Queue: "c"}, ids(0))
	wantIds(t, s, "b", 1)
	want(t, s, create("a", plain), shop.Answer{})
	wantIds(t, s, "a")
	want(t, s, send("a", "x", ""), ids(1)) // it is another queue: its numbers begin again
	want(t, s, ack("a", "1.1"), failed(api.ErrReceipt))
}

// Purge leaves the queue there, with its numbers.
func TestP92Purge(t *testing.T) {
	s := with(t, "a", "b")
	want(t, s, batch("a", "", "x", "y"), ids(1, 2))
	want(t, s, send("b", "x", ""), ids(1))
	want(t, s, shop.Cmd{Kind: shop.Purge, Queue: "a"}, ids(2))
	want(t, s, shop.Cmd{Kind: shop.Purge, Queue: "a"}, ids(0))
	wantNames(t, s, "a", "b")
	wantIds(t, s, "a")
	wantIds(t, s, "b", 1)
	want(t, s, send("a", "x", ""), ids(3))
}

func TestP92Set(t *testing.T) {
	s := with(t, "a")
	set := func(a queue.Attr) shop.Cmd { return shop.Cmd{Kind: shop.Set, Queue: "a", A: a} }
	for _, a := range []queue.Attr{{Visible: 1, Retain: 2}, deadly("none"), {Visible: much, Retain: much, Delay: 3, Window: 4}} {
		want(t, s, set(a), shop.Answer{})
		if q := theQueue(t, s, "a"); q.Attr() != a {
			t.Error("Attr:", q.Attr())
		}
	}
	wantError(t, s, api.ErrArg, set(fifo), set(queue.Attr{}), set(queue.Attr{Visible: 1, Retain: 1, Max: 101, Dead: "d"}))
	if q := theQueue(t, s, "a"); q.Attr() != (queue.Attr{Visible: much, Retain: much, Delay: 3, Window: 4}) {
		t.Error("Attr:", q.Attr())
	}
}

func TestP92Send(t *testing.T) {
	s := with(t, "a")
	want(t, s, create("f", fifo), shop.Answer{})
	want(t, s, create("k", queue.Attr{Visible: 10, Retain: 100, Window: 20, Delay: 3}), shop.Answer{})
	want(t, s, send("a", "x", ""), ids(1))
	want(t, s, shop.Cmd{Kind: shop.Send, Queue: "a", Body: "y", N: 5}, ids(2))
	want(t, s, send("f", "x", "g"), ids(1))
	key := send("k", "x", "")
	key.Key = "key"
	want(t, s, key, ids(1))
	want(t, s, key, ids(1))
	want(t, s, send("k", "y", ""), ids(2))
	wantReceived(t, s, "a", took(1, "x", ""))
	wantReceived(t, s, "f", took(1, "x", "g"))
	wantReceived(t, s, "k")
	wantTick(t, s, 3, 0, 0, 0)
	wantReceived(t, s, "k", took(1, "x", ""), took(2, "y", ""))
	wantTick(t, s, 5, 0, 0, 0)
	wantReceived(t, s, "a", took(2, "y", ""))
	long := send("a", "x", "")
	long.Key = strings.Repeat("k", 257)
	wantError(t, s, api.ErrArg, send("a", "x", "g"), send("f", "x", ""), send("a", strings.Repeat("x", 257), ""), long,
		shop.Cmd{Kind: shop.Send, Queue: "a", N: -2}, shop.Cmd{Kind: shop.Send, Queue: "a", N: much + 1},
		shop.Cmd{Kind: shop.Send, Queue: "f", Group: "g", N: 0}, shop.Cmd{Kind: shop.Send, Queue: "a", N: most})
	wantIds(t, s, "a", 1, 2)
	wantIds(t, s, "f", 1)
}

func TestP92Batch(t *testing.T) {
	s := with(t, "a")
	want(t, s, create("f", fifo), shop.Answer{})
	ten := strings.Split("abcdefghij", "")
	want(t, s, batch("a", "", ten...), ids(1, 2, 3, 4, 5, 6, 7, 8, 9, 10))
	want(t, s, batch("a", "", "k"), ids(11))
	want(t, s, batch("f", "g", "x", "y"), ids(1, 2))
	wantError(t, s, api.ErrArg, batch("a", ""), batch("a", "", append(ten, "k")...), batch("a", "", make([]string, 1000)...),
		batch("a", "g", "x", "y"), batch("f", "", "x", "y"), shop.Cmd{Kind: shop.Batch, Queue: "a", Bodies: []string{}},
		shop.Cmd{Kind: shop.Batch, Queue: "a", Bodies: []string{"x"}, N: -2}, shop.Cmd{Kind: shop.Batch, Queue: "f", Bodies: []string{"x"}, Group: "g"})
	wantIds(t, s, "a", 1, 2, 3, 4, 5, 6, 7, 8, 9, 10, 11)
	wantReceived(t, s, "f", took(1, "x", "g"))
	var l []queue.Took
	for i, body := range ten {
		l = append(l, took(i+1, body, ""))
	}
	wantReceived(t, s, "a", l...)
	want(t, s, shop.Cmd{Kind: shop.Batch, Queue: "a", Bodies: []string{"x", "x"}, N: 4}, ids(12, 13))
	wantReceived(t, s, "a", took(11, "k", ""))
	wantTick(t, s, 4, 0, 0, 0)
	wantReceived(t, s, "a", took(12, "x", ""), took(13, "x", ""))
}

// A Batch has no key, whichever one the command has.
func TestP92BatchWithoutKey(t *testing.T) {
	s := shop.New()
	want(t, s, create("a", queue.Attr{Visible: 10, Retain: 100, Window: 20}), shop.Answer{})
	c := batch("a", "", "x", "y")
	c.Key, c.Body, c.Receipt = "k", "z", strings.Repeat("r", 257)
	want(t, s, c, ids(1, 2))
	c.Key = strings.Repeat("k", 257)
	want(t, s, c, ids(3, 4))
	one := send("a", "x", "")
	one.Key = "k"
	want(t, s, one, ids(5))
}

// A Batch ends at its first error; what was sent stays, and its numbers are told.
func TestP92BatchError(t *testing.T) {
	long := strings.Repeat("x", 257)
	s := with(t, "a")
	want(t, s, batch("a", "", "x", "y", long, "z", long), shop.Answer{Code: 1, Ids: []int{1, 2}})
	want(t, s, batch("a", "", long, "z"), failed(api.ErrArg))
	want(t, s, by(1, 1, batch("a", "", "z", long)), shop.Answer{Code: 1, Ids: []int{3}})
	want(t, s, by(1, 1, batch("a", "", "z", long)), shop.Answer{Code: 1, Ids: []int{3}})
	if req, a, is := s.Last(1); req != 1 || !equal(a, shop.Answer{Code: 1, Ids: []int{3}}) || !is {
		t.Error("Last:", req, a, is)
	}
	wantReceived(t, s, "a", took(1, "x", ""), took(2, "y", ""), took(3, "z", ""))
	for range 1017 {
		s.Apply(send("a", "x", ""))
	}
	want(t, s, batch("a", "", "1", "2", "3", "4", "5", long), shop.Answer{Code: 5, Ids: []int{1021, 1022, 1023, 1024}})
	want(t, s, batch("a", "", "1", "2"), failed(api.ErrFull))
	want(t, s, batch("a", "", long, "2"), failed(api.ErrArg))
	wantError(t, s, api.ErrFull, send("a", "x", ""))
	if l := theQueue(t, s, "a").Ids(); len(l) != api.MaxQueue || l[1023] != 1024 {
		t.Error("Ids:", len(l))
	}
}

func TestP92Receive(t *testing.T) {
	s := with(t, "a")
	want(t, s, receive("a", 1), shop.Answer{})
	want(t, s, batch("a", "", "x", "y", "z"), ids(1, 2, 3))
	want(t, s, shop.Cmd{Kind: shop.Receive, Queue: "a", N: 2, M: 7}, shop.Answer{Took: []queue.Took{took(1, "x", ""), took(2, "y", "")}})
	want(t, s, receive("a", 10), shop.Answer{Took: []queue.Took{took(3, "z", "")}})
	for id, want := range map[int]int{1: 7, 2: 7, 3: 10} {
		if until, _ := theQueue(t, s, "a").Leased(id); until != want {
			t.Error(id, "is leased until", until)
		}
	}
	wantTick(t, s, 7, 0, 0, 0)
	want(t, s, receive("a", 1), shop.Answer{Took: []queue.Took{{Id: 1, Count: 2, Receipt: "1.2", Body: "x"}}})
	wantError(t, s, api.ErrArg, receive("a", 0), receive("a", 11), receive("a", -1), receive("a", most),
		shop.Cmd{Kind: shop.Receive, Queue: "a", N: 1, M: -1}, shop.Cmd{Kind: shop.Receive, Queue: "a", N: 1, M: much + 1})
	want(t, s, receive("a", 1), shop.Answer{Took: []queue.Took{{Id: 2, Count: 2, Receipt: "2.2", Body: "y"}}})
}

func TestP92Ack(t *testing.T) {
	s := with(t, "a", "b")
	want(t, s, batch("a", "", "x", "y"), ids(1, 2))
	wantError(t, s, api.ErrReceipt, ack("a", "1.1"), ack("a", ""), ack("a", "x"))
	wantReceived(t, s, "a", took(1, "x", ""), took(2, "y", ""))
	wantError(t, s, api.ErrReceipt, ack("b", "2.1"), ack("a", "2.2"), ack("a", "02.1"))
	want(t, s, ack("a", "2.1"), ids(2))
	wantError(t, s, api.ErrReceipt, ack("a", "2.1"))
	wantIds(t, s, "a", 1)
}

func TestP92Extend(t *testing.T) {
	s := with(t, "a")
	extend := func(receipt string, n int) shop.Cmd {
		return shop.Cmd{Kind: shop.Extend, Queue: "a", Receipt: receipt, N: n, M: 99}
	}
	want(t, s, send("a", "x", ""), ids(1))
	wantError(t, s, api.ErrReceipt, extend("1.1", 5))
	wantReceived(t, s, "a", took(1, "x", ""))
	wantTick(t, s, 4, 0, 0, 0)
	want(t, s, extend("1.1", 30), shop.Answer{})
	if until, is := theQueue(t, s, "a").Leased(1); until != 34 || !is {
		t.Error("Leased:", until, is)
	}
	wantError(t, s, api.ErrArg, extend("1.1", -1), extend("1.1", much+1), extend("x", least))
	want(t, s, extend("1.1", 0), shop.Answer{})
	want(t, s, receive("a", 1), shop.Answer{Took: []queue.Took{{Id: 1, Count: 2, Receipt: "1.2", Body: "x"}}})
}

// What is returned is new memory, and a command's Bodies are neither modified nor retained.
func TestP92NewMemory(t *testing.T) {
	s := with(t, "a")
	bodies := []string{"x", "y", "z"}
	c := by(1, 1, batch("a", "", bodies...))
	a := s.Apply(c)
	if !slices.Equal(bodies, []string{"x", "y", "z"}) {
		t.Error("Bodies:", bodies)
	}
	clear(bodies)
	spoil(a)
	again := s.Apply(c)
	_, last, _ := s.Last(1)
	_, other, _ := s.Copy().Last(1)
	for _, b := range []shop.Answer{again, last, other} {
		if !equal(b, ids(1, 2, 3)) {
			t.Error("answer:", b)
		}
		spoil(b)
	}
	got := by(1, 2, receive("a", 10))
	whole := shop.Answer{Took: []queue.Took{took(1, "x", ""), took(2, "y", ""), took(3, "z", "")}}
	for range 3 {
		a := s.Apply(got)
		if !equal(a, whole) {
			t.Error("answer:", a)
		}
		spoil(a)
		_, last, _ := s.Last(1)
		if !equal(last, whole) {
			t.Error("Last:", last)
		}
		spoil(last)
	}
	wantIds(t, s, "a", 1, 2, 3)
}

// spoil overwrites all memory of an answer.
func spoil(a shop.Answer) {
	clear(a.Ids[:cap(a.Ids)])
	clear(a.Took[:cap(a.Took)])
}
