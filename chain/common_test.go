package chain_test

import (
	"math"
	"reflect"
	"slices"
	"strconv"
	"testing"

	"daisychain/api"
	"daisychain/chain"
	"daisychain/master"
)

// least and most are the least and the greatest number.
const least, most = math.MinInt, math.MaxInt

// full is a configuration whose members are all full; joining is one whose last member is new.
func full(epoch int, members ...int) master.Config {
	return master.Config{Epoch: epoch, Members: members}
}

func joining(epoch int, members ...int) master.Config {
	return master.Config{Epoch: epoch, Members: members, Joining: true}
}

// upTo is a row of so many commands, each another one.
func upTo(many int) []string {
	var l []string
	for i := range many {
		l = append(l, "c"+strconv.Itoa(i+1))
	}
	return l
}

// restarted is a replica that keeps that, and did not adopt anything yet.
func restarted(id int, c master.Config, row ...string) *chain.Replica {
	return chain.New(id, chain.Keep{Config: c, Row: row})
}

// live is a replica that keeps that row, and adopted that configuration.
func live(t testing.TB, id int, c master.Config, row ...string) *chain.Replica {
	t.Helper()
	r := restarted(id, master.Config{}, row...)
	r.Adopt(c)
	if !r.Live() {
		t.Fatalf("replica %d is not live in %v", id, c)
	}
	return r
}

// pass is a Pass of a command, bare is one without a command, and ack is an Ack.
func pass(from, to, epoch, index, base int, cmd string) chain.Msg {
	return chain.Msg{Kind: chain.Pass, From: from, To: to, Epoch: epoch, Index: index, Base: base, Has: true, Cmd: cmd}
}

func bare(from, to, epoch, index, base int) chain.Msg {
	return chain.Msg{Kind: chain.Pass, From: from, To: to, Epoch: epoch, Index: index, Base: base}
}

func ack(from, to, epoch, index int) chain.Msg {
	return chain.Msg{Kind: chain.Ack, From: from, To: to, Epoch: epoch, Index: index}
}

// passes are Passes of the commands of a row from one place to another.
func passes(from, to, epoch, base int, row []string, first, end int) []chain.Msg {
	var l []chain.Msg
	for i := first; i < end; i++ {
		l = append(l, pass(from, to, epoch, i, base, row[i]))
	}
	return l
}

// wantMsgs checks messages.
func wantMsgs(t testing.TB, got []chain.Msg, want ...chain.Msg) {
	t.Helper()
	if !slices.Equal(got, want) {
		t.Fatalf("messages: %+v\nwant %+v", got, want)
	}
}

// sameConfig compares configurations; lists that are nil and those that are empty are the same.
func sameConfig(a, b master.Config) bool {
	return a.Epoch == b.Epoch && a.Joining == b.Joining && slices.Equal(a.Members, b.Members)
}

// wantKeep checks what a replica keeps.
func wantKeep(t testing.TB, r *chain.Replica, c master.Config, row ...string) {
	t.Helper()
	k := r.Keep()
	if !sameConfig(k.Config, c) || !slices.Equal(k.Row, row) {
		t.Fatalf("Keep: %v, want %v, %q", k, c, row)
	}
	if got := r.Epoch(); got != c.Epoch {
		t.Fatalf("Epoch: %d, want %d", got, c.Epoch)
	}
	if got := r.Row(); !slices.Equal(got, row) {
		t.Fatalf("Row: %q, want %q", got, row)
	}
}

// wantIs checks whether a replica is live, the head, and the tail, and its Commit.
func wantIs(t testing.TB, r *chain.Replica, live, head, tail bool, commit int) {
	t.Helper()
	if r.Live() != live || r.Head() != head || r.Tail() != tail || r.Commit() != commit {
		t.Fatalf("live, head, tail, commit: %v, %v, %v, %d, want %v, %v, %v, %d",
			r.Live(), r.Head(), r.Tail(), r.Commit(), live, head, tail, commit)
	}
}

// wantFresh checks what Fresh returns.
func wantFresh(t testing.TB, r *chain.Replica, from int, want ...string) {
	t.Helper()
	if k, l := r.Fresh(); k != from || !slices.Equal(l, want) {
		t.Fatalf("Fresh: %d, %q, want %d, %q", k, l, from, want)
	}
}

// wantOrder checks what an Order returns that a head takes.
func wantOrder(t testing.TB, r *chain.Replica, cmd string, want int, msgs ...chain.Msg) {
	t.Helper()
	k, l, e := r.Order(cmd)
	if k != want || e != api.OK {
		t.Fatalf("Order: %d, %v, want %d", k, e, want)
	}
	wantMsgs(t, l, msgs...)
}

// wantNoOrder checks that an Order is refused, and changes nothing.
func wantNoOrder(t testing.TB, r *chain.Replica) {
	t.Helper()
	before := seen(r)
	if k, l, e := r.Order("x"); k != 0 || len(l) != 0 || e != api.ErrTurn {
		t.Fatalf("Order: %d, %v, %v", k, l, e)
	}
	wantSeen(t, r, before)
}

// view is all that can be seen of a replica without changing it.
type view struct {
	Keep                       chain.Keep
	Live, Head, Tail, Complete bool
	Commit                     int
	Again                      []chain.Msg
}

func seen(r *chain.Replica) view {
	v := view{r.Keep(), r.Live(), r.Head(), r.Tail(), r.Complete(), r.Commit(), r.Again()}
	v.Keep.Row = append([]string{}, v.Keep.Row...)
	v.Keep.Config.Members = append([]int{}, v.Keep.Config.Members...)
	return v
}

// wantSeen checks that a replica is as it was.
func wantSeen(t testing.TB, r *chain.Replica, want view) {
	t.Helper()
	if got := seen(r); !reflect.DeepEqual(got, want) {
		t.Fatalf("the replica is\n%+v, it was\n%+v", got, want)
	}
}

// wantIgnored checks that a message does nothing.
func wantIgnored(t testing.TB, r *chain.Replica, m chain.Msg) {
	t.Helper()
	before := seen(r)
	if l := r.Receive(m); len(l) != 0 {
		t.Fatalf("Receive of %+v: %+v", m, l)
	}
	wantSeen(t, r, before)
}
