package shop_test

import (
	"math/rand"
	"slices"
	"strconv"
	"testing"

	"daisychain/api"
	"daisychain/queue"
	"daisychain/shop"
)

func TestP93Time(t *testing.T) {
	s := with(t, "a", "b")
	wantTick(t, s, 0, 0, 0, 0)
	wantTick(t, s, 5, 0, 0, 0)
	wantTick(t, s, 5, 0, 0, 0)
	wantError(t, s, api.ErrArg, tick(4), tick(0), tick(-1), tick(least), tick(api.MaxTime+1), tick(most))
	for _, name := range s.Names() {
		if now := theQueue(t, s, name).Now(); now != 5 || s.Now() != 5 {
			t.Error("Now:", now, s.Now())
		}
	}
	wantTick(t, s, api.MaxTime, 0, 0, 0)
	wantTick(t, s, api.MaxTime, 0, 0, 0)
	wantError(t, s, api.ErrArg, tick(api.MaxTime+1), tick(api.MaxTime-1))
	if now := theQueue(t, s, "b").Now(); now != api.MaxTime || s.Now() != api.MaxTime {
		t.Error("Now:", now, s.Now())
	}
	none := shop.New()
	wantError(t, none, api.ErrArg, tick(-1), tick(api.MaxTime+1))
	wantTick(t, none, 3, 0, 0, 0)
}

// A client's Tick is executed once, as any other command of it.
func TestP93ByClient(t *testing.T) {
	s := with(t, "a")
	want(t, s, send("a", "x", ""), ids(1))
	c := by(1, 1, tick(100))
	c.Queue = "none" // a Tick has no queue
	want(t, s, c, ids(0, 0, 1))
	want(t, s, c, ids(0, 0, 1))
	want(t, s, by(1, 2, tick(99)), failed(api.ErrArg))
	want(t, s, by(1, 2, tick(101)), failed(api.ErrArg))
	want(t, s, by(1, 3, tick(101)), ids(0, 0, 0))
}

// A Tick that is not valid has no effect on any queue.
func TestP93NoEffect(t *testing.T) {
	s := with(t, "dead")
	want(t, s, create("a", deadly("dead")), shop.Answer{})
	want(t, s, send("a", "x", ""), ids(1))
	wantReceived(t, s, "a", took(1, "x", ""))
	for _, now := range []int{-1, api.MaxTime + 1, most} {
		want(t, s, tick(now), failed(api.ErrArg))
		wantIds(t, s, "a", 1)
	}
	wantTick(t, s, 9, 0, 0, 0)
	wantIds(t, s, "a", 1)
	wantTick(t, s, 10, 1, 0, 0)
	wantIds(t, s, "a")
	wantReceived(t, s, "dead", took(1, "x", ""))
}

// The answer counts those of all queues that moved, were lost, and expired.
func TestP93Counts(t *testing.T) {
	s := with(t, "dead")
	a := deadly("dead")
	a.Retain = 20
	for i, name := range []string{"a", "b", "c"} {
		want(t, s, create(name, a), shop.Answer{})
		for range 3 + i {
			s.Apply(send(name, "x", ""))
		}
		s.Apply(receive(name, 1+i))
	}
	want(t, s, shop.Cmd{Kind: shop.Set, Queue: "b", A: deadly("none")}, shop.Answer{})
	wantTick(t, s, 10, 4, 2, 0) // 1 of a, 3 of c; 2 of b
	wantTick(t, s, 19, 0, 0, 0)
	wantTick(t, s, 20, 0, 0, 4) // 2 of a, 2 of c; those of b are kept longer
	wantIds(t, s, "b", 3, 4)
	wantIds(t, s, "dead", 1, 2, 3, 4)
	wantTick(t, s, 100, 0, 0, 2)
	wantTick(t, s, 110, 0, 0, 4)
}

// Dead messages come in the increasing order of their queues' names, and of their numbers.
func TestP93Order(t *testing.T) {
	for range 20 {
		s := with(t, "m")
		var want1 []queue.Took
		for _, name := range []string{"z", "b", "y", "a", "é", "n"} {
			want(t, s, create(name, deadly("m")), shop.Answer{})
			want(t, s, batch(name, "", name+"1", name+"2"), ids(1, 2))
			s.Apply(receive(name, 2))
		}
		for _, name := range []string{"a", "b", "n", "y", "z"} {
			want1 = append(want1, took(len(want1)+1, name+"1", ""), took(len(want1)+2, name+"2", ""))
		}
		wantTick(t, s, 10, 12, 0, 0)
		wantReceived(t, s, "m", want1...)
		wantReceived(t, s, "m", took(11, "é1", ""), took(12, "é2", ""))
	}
}

// To a Fifo queue a message moves with its group, or else with "dead"; to another one without a group.
func TestP93Groups(t *testing.T) {
	s := with(t, "plain")
	want(t, s, create("fifo", fifo), shop.Answer{})
	groups := deadly("fifo")
	groups.Fifo = true
	want(t, s, create("a", groups), shop.Answer{})
	want(t, s, create("b", deadly("fifo")), shop.Answer{})
	groups.Dead = "plain"
	want(t, s, create("c", groups), shop.Answer{})
	want(t, s, create("d", deadly("plain")), shop.Answer{})
	for _, c := range []shop.Cmd{send("a", "a1", "g"), send("b", "b1", ""), send("b", "b2", ""), send("c", "c1", "g"), send("d", "d1", "")} {
		s.Apply(c)
	}
	for _, name := range []string{"a", "b", "c", "d"} {
		s.Apply(receive(name, 10))
	}
	wantTick(t, s, 10, 5, 0, 0)
	wantReceived(t, s, "fifo", took(1, "a1", "g"), took(2, "b1", "dead"))
	want(t, s, ack("fifo", "2.1"), ids(2))
	wantReceived(t, s, "fifo", took(3, "b2", "dead"))
	wantReceived(t, s, "plain", took(1, "c1", ""), took(2, "d1", ""))
}

// A message is lost if its queue has no such Dead, or that one is full; the others move all the same.
func TestP93Lost(t *testing.T) {
	s := with(t, "full")
	for range api.MaxQueue - 2 {
		s.Apply(send("full", "x", ""))
	}
	for _, name := range []string{"a", "b"} {
		want(t, s, create(name, deadly("full")), shop.Answer{})
		want(t, s, batch(name, "", "1", "2", "3"), ids(1, 2, 3))
	}
	want(t, s, create("c", deadly("none")), shop.Answer{})
	want(t, s, send("c", "x", ""), ids(1))
	for _, name := range []string{"a", "b", "c"} {
		s.Apply(receive(name, 10))
	}
	wantTick(t, s, 10, 2, 5, 0)
	for _, name := range []string{"a", "b", "c"} {
		wantIds(t, s, name)
	}
	if l := theQueue(t, s, "full").Ids(); len(l) != api.MaxQueue || l[api.MaxQueue-1] != api.MaxQueue {
		t.Error("full:", len(l))
	}
	wantTick(t, s, 20, 0, 0, 0) // what was lost does not come again
}

// All queues have the new time before a message moves: it is not too old where it comes, and finds the room of those
// that expired. Both names of the other queue are tried: that it comes behind, and ahead.
func TestP93AllFirst(t *testing.T) {
	for _, dead := range []string{"z", "A"} {
		s := shop.New()
		want(t, s, create(dead, queue.Attr{Visible: 10, Retain: 5, Delay: 3}), shop.Answer{})
		want(t, s, create("m", deadly(dead)), shop.Answer{})
		want(t, s, send("m", "x", ""), ids(1))
		wantReceived(t, s, "m", took(1, "x", ""))
		for range api.MaxQueue {
			s.Apply(send(dead, "old", ""))
		}
		wantTick(t, s, 50, 1, 0, api.MaxQueue)
		wantIds(t, s, dead, api.MaxQueue+1)
		wantTick(t, s, 52, 0, 0, 0)
		wantReceived(t, s, dead) // it waits for the Delay of that queue
		wantTick(t, s, 53, 0, 0, 0)
		wantReceived(t, s, dead, took(api.MaxQueue+1, "x", ""))
		wantTick(t, s, 54, 0, 0, 0)
		wantTick(t, s, 55, 0, 0, 1)
	}
}

// A dead message moves once a Tick, also where its Dead has messages die itself, and where that is its own queue.
func TestP93MovesOn(t *testing.T) {
	s := with(t, "c")
	want(t, s, create("a", deadly("b")), shop.Answer{})
	want(t, s, create("b", deadly("c")), shop.Answer{})
	want(t, s, create("own", deadly("own")), shop.Answer{})
	want(t, s, send("a", "x", ""), ids(1))
	want(t, s, send("own", "y", ""), ids(1))
	s.Apply(receive("a", 1))
	s.Apply(receive("own", 1))
	wantTick(t, s, 30, 2, 0, 0)
	wantReceived(t, s, "a")
	wantReceived(t, s, "b", took(1, "x", ""))
	wantReceived(t, s, "own", took(2, "y", ""))
	wantTick(t, s, 40, 2, 0, 0)
	wantReceived(t, s, "b")
	wantReceived(t, s, "c", took(1, "x", ""))
	wantReceived(t, s, "own", took(3, "y", ""))
}

// A dead message has no key, and is known by none.
func TestP93WithoutKey(t *testing.T) {
	s := shop.New()
	a := queue.Attr{Visible: 10, Retain: 100, Window: 50, Max: 1, Dead: "b"}
	want(t, s, create("a", a), shop.Answer{})
	a.Dead = "c"
	want(t, s, create("b", a), shop.Answer{})
	keyed := func(name string) shop.Cmd {
		c := send(name, "x", "")
		c.Key = "k"
		return c
	}
	want(t, s, keyed("a"), ids(1))
	want(t, s, keyed("b"), ids(1))
	wantReceived(t, s, "a", took(1, "x", ""))
	wantTick(t, s, 10, 1, 0, 0)
	wantIds(t, s, "b", 1, 2)
	want(t, s, keyed("a"), ids(1)) // known until 50, although the message is not there any more
	want(t, s, keyed("b"), ids(1))
}

// A queue that was made later, or removed, counts as it is at the Tick.
func TestP93DeadAtTick(t *testing.T) {
	s := with(t, "dead")
	want(t, s, create("a", deadly("later")), shop.Answer{})
	want(t, s, create("b", deadly("dead")), shop.Answer{})
	for _, name := range []string{"a", "b"} {
		want(t, s, batch(name, "", name+"1", name+"2"), ids(1, 2))
		s.Apply(receive(name, 1))
	}
	want(t, s, shop.Cmd{Kind: shop.Delete, Queue: "dead"}, ids(0))
	want(t, s, create("later", plain), shop.Answer{})
	wantTick(t, s, 10, 1, 1, 0)
	wantReceived(t, s, "later", took(1, "a1", ""))
	want(t, s, shop.Cmd{Kind: shop.Set, Queue: "b", A: deadly("later")}, shop.Answer{})
	wantReceived(t, s, "b", took(2, "b2", ""))
	wantTick(t, s, 20, 1, 0, 0)
	wantIds(t, s, "later", 1, 2)
}

// Each message that was sent is there, or was acked, purged, expired, moved or lost: exactly one of these (T2).
func TestP94NothingIsLost(t *testing.T) {
	for seed := range 40 {
		r := rand.New(rand.NewSource(int64(seed)))
		s := shop.New()
		a := queue.Attr{Visible: 5, Retain: 40, Max: 2, Dead: "b"}
		want(t, s, create("a", a), shop.Answer{})
		a.Dead, a.Fifo = []string{"a", "none"}[seed%2], true
		want(t, s, create("b", a), shop.Answer{})
		sent, ended, acked := 0, 0, map[string]int{}
		for step := range 500 {
			name := []string{"a", "b"}[r.Intn(2)]
			group := map[string]string{"b": "g" + strconv.Itoa(r.Intn(3))}[name]
			switch r.Intn(6) {
			case 0, 1:
				sent += len(s.Apply(batch(name, group, "x", "y")).Ids)
			case 2, 3:
				for _, x := range s.Apply(receive(name, 3)).Took {
					if was := acked[name+x.Receipt]; was > 0 {
						t.Fatal(name, x, "was acked in step", was)
					}
					if r.Intn(2) == 0 {
						want(t, s, ack(name, x.Receipt), ids(x.Id))
						acked[name+x.Receipt] = step + 1
						ended++
					}
				}
			case 4:
				l := s.Apply(tick(s.Now() + r.Intn(6))).Ids
				ended += l[1] + l[2]
			case 5:
				if r.Intn(40) == 0 {
					ended += s.Apply(shop.Cmd{Kind: shop.Purge, Queue: name}).Ids[0]
				}
			}
			there := len(theQueue(t, s, "a").Ids()) + len(theQueue(t, s, "b").Ids())
			if there+ended != sent {
				t.Fatal(sent, "were sent;", ended, "ended;", there, "are there")
			}
		}
	}
}

// Of a group, messages are received in the order in which they were sent, whatever happens in between (T3).
func TestP94Groups(t *testing.T) {
	for seed := range 40 {
		r := rand.New(rand.NewSource(int64(seed)))
		s := shop.New()
		want(t, s, create("a", queue.Attr{Visible: 4, Retain: 1000, Fifo: true}), shop.Answer{})
		there := map[string][]int{}
		for range 400 {
			group := string(rune('a' + r.Intn(3)))
			switch r.Intn(4) {
			case 0:
				there[group] = append(there[group], s.Apply(send("a", "x", group)).Ids...)
			case 1, 2:
				for _, x := range s.Apply(receive("a", 1+r.Intn(4))).Took {
					if x.Id != there[x.Group][0] {
						t.Fatal("received:", x, "while there are", there[x.Group])
					}
					if r.Intn(2) == 0 {
						want(t, s, ack("a", x.Receipt), ids(x.Id))
						there[x.Group] = slices.Delete(there[x.Group], 0, 1)
					}
				}
			case 3:
				s.Apply(tick(s.Now() + r.Intn(3)))
			}
		}
	}
}

// All commands end soon, in a shop that is full.
func TestP93Many(t *testing.T) {
	s := shop.New()
	for i := range 16 {
		a := deadly("0")
		a.Dead = strconv.Itoa((i + 1) % 16)
		want(t, s, create(strconv.Itoa(i), a), shop.Answer{})
		for range api.MaxQueue {
			s.Apply(send(strconv.Itoa(i), "x", ""))
		}
	}
	for round := range 9 {
		for i := range 16 {
			for range 10 {
				s.Apply(receive(strconv.Itoa(i), 10))
			}
		}
		wantTick(t, s, 10+10*round, 1600, 0, 0)
	}
}
