package chain_test

import (
	"testing"

	"daisychain/chain"
	"daisychain/master"
)

// Of a message to another one, of another epoch or kind, or from one that is not beside it, nothing happens.
func TestP144Ignored(t *testing.T) {
	r := live(t, 2, full(5, 1, 2, 3), "a", "b")
	for _, m := range []chain.Msg{
		pass(1, 3, 5, 2, 9, "c"), pass(1, 1, 5, 2, 9, "c"), pass(1, -1, 5, 2, 9, "c"),
		pass(1, 2, 4, 2, 9, "c"), pass(1, 2, 6, 2, 9, "c"), pass(1, 2, 0, 2, 9, "c"), pass(1, 2, least, 2, 9, "c"),
		pass(3, 2, 5, 2, 9, "c"), pass(2, 2, 5, 2, 9, "c"), pass(0, 2, 5, 2, 9, "c"), pass(-1, 2, 5, 2, 9, "c"), pass(7, 2, 5, 2, 9, "c"),
		ack(3, 1, 5, 1), ack(3, 3, 5, 1), ack(3, 2, 4, 1), ack(3, 2, 6, 1), ack(1, 2, 5, 1), ack(2, 2, 5, 1), ack(-1, 2, 5, 1),
		{Kind: 2, From: 1, To: 2, Epoch: 5, Index: 2, Has: true, Cmd: "c"}, {Kind: 2, From: 3, To: 2, Epoch: 5, Index: 2},
		{Kind: -1, From: 1, To: 2, Epoch: 5, Index: 2, Has: true, Cmd: "c"}, {Kind: most, From: 3, To: 2, Epoch: 5, Index: 1}, {},
	} {
		wantIgnored(t, r, m)
	}
}

// Where there is no member beside it, nothing comes from one.
func TestP144IgnoredBesideNone(t *testing.T) {
	for _, from := range []int{least, -1, 0, 1, 2, 99} {
		r := live(t, 1, full(5, 1), "a")
		wantIgnored(t, r, pass(from, 1, 5, 1, 0, "b"))
		wantIgnored(t, r, ack(from, 1, 5, 1))
		r = live(t, 1, full(5, 1, 2), "a")
		wantIgnored(t, r, pass(from, 1, 5, 1, 0, "b"))
		r = live(t, 2, joining(5, 1, 2))
		wantIgnored(t, r, ack(from, 2, 5, 1))
	}
}

func TestP144IgnoredNotLive(t *testing.T) {
	for _, r := range []*chain.Replica{restarted(2, full(5, 1, 2, 3), "a"), restarted(2, full(5, 1, 3), "a")} {
		wantIgnored(t, r, pass(1, 2, 5, 1, 0, "b"))
		wantIgnored(t, r, ack(3, 2, 5, 1))
	}
	r := live(t, 2, full(5, 1, 2, 3), "a")
	r.Adopt(full(6, 1, 3))
	for _, epoch := range []int{5, 6} {
		wantIgnored(t, r, pass(1, 2, epoch, 1, 0, "b"))
		wantIgnored(t, r, ack(3, 2, epoch, 1))
	}
}

// One between others has a command that is the next one, passes it on, and acknowledges what is committed.
func TestP144Pass(t *testing.T) {
	r := live(t, 2, full(5, 1, 2, 3))
	wantMsgs(t, r.Receive(pass(1, 2, 5, 0, 0, "a")), pass(2, 3, 5, 0, 0, "a"), ack(2, 1, 5, 0))
	wantMsgs(t, r.Receive(pass(1, 2, 5, 1, 0, "")), pass(2, 3, 5, 1, 0, ""), ack(2, 1, 5, 0))
	wantIs(t, r, true, false, false, 0)
	r.Receive(ack(3, 2, 5, 1))
	wantMsgs(t, r.Receive(pass(1, 2, 5, 2, 0, "a")), pass(2, 3, 5, 2, 0, "a"), ack(2, 1, 5, 1))
	wantKeep(t, r, full(5, 1, 2, 3), "a", "", "a")
	wantIs(t, r, true, false, false, 1)
}

// The tail commits it.
func TestP144PassTail(t *testing.T) {
	for _, c := range []master.Config{full(5, 1, 2), joining(5, 1, 2)} {
		r := live(t, 2, c)
		wantMsgs(t, r.Receive(pass(1, 2, 5, 0, 0, "a")), ack(2, 1, 5, 1))
		wantIs(t, r, true, false, true, 1)
		wantMsgs(t, r.Receive(pass(1, 2, 5, 1, 0, "b")), ack(2, 1, 5, 2))
		wantKeep(t, r, c, "a", "b")
		wantFresh(t, r, 1, "a", "b")
	}
}

// What is not the next one is not appended, nor is what has no command; an Ack is sent nevertheless.
func TestP144PassOther(t *testing.T) {
	for _, c := range []master.Config{full(5, 1, 2), full(5, 1, 2, 3)} {
		r := live(t, 2, c, "a", "b")
		commit := r.Commit()
		for _, index := range []int{least, -1, 0, 1, 3, 4, most} {
			wantMsgs(t, r.Receive(pass(1, 2, 5, index, 0, "c")), ack(2, 1, 5, commit))
			wantMsgs(t, r.Receive(bare(1, 2, 5, index, 0)), ack(2, 1, 5, commit))
		}
		wantMsgs(t, r.Receive(bare(1, 2, 5, 2, 0)), ack(2, 1, 5, commit))
		m := bare(1, 2, 5, 2, 0)
		m.Cmd = "c"
		wantMsgs(t, r.Receive(m), ack(2, 1, 5, commit))
		wantKeep(t, r, c, "a", "b")
		wantIs(t, r, true, false, len(c.Members) == 2, commit)
	}
}

func TestP144Ack(t *testing.T) {
	r := live(t, 2, full(5, 1, 2, 3), upTo(6)...)
	wantMsgs(t, r.Receive(ack(3, 2, 5, 0)))
	wantIs(t, r, true, false, false, 0)
	wantMsgs(t, r.Receive(ack(3, 2, 5, 2)), ack(2, 1, 5, 2))
	wantIs(t, r, true, false, false, 2)
	for _, index := range []int{2, 1, 0, -1, least} {
		wantIgnored(t, r, ack(3, 2, 5, index))
	}
	wantMsgs(t, r.Receive(ack(3, 2, 5, 3)), ack(2, 1, 5, 3))
	wantMsgs(t, r.Again(), passes(2, 3, 5, 6, upTo(6), 3, 6)...)
	wantMsgs(t, r.Receive(ack(3, 2, 5, 7)), ack(2, 1, 5, 6))
	wantIs(t, r, true, false, false, 6)
	wantMsgs(t, r.Again(), bare(2, 3, 5, 6, 6))
	for _, index := range []int{6, 7, most} {
		wantIgnored(t, r, ack(3, 2, 5, index))
	}
	wantMsgs(t, r.Receive(pass(1, 2, 5, 6, 0, "d")), pass(2, 3, 5, 6, 6, "d"), ack(2, 1, 5, 6))
	wantMsgs(t, r.Receive(ack(3, 2, 5, most)), ack(2, 1, 5, 7))
	wantFresh(t, r, 1, append(upTo(6), "d")...)
}

// The head has nobody to acknowledge it to.
func TestP144AckHead(t *testing.T) {
	r := live(t, 1, full(5, 1, 2), "a", "b")
	wantMsgs(t, r.Receive(ack(2, 1, 5, 1)))
	wantIs(t, r, true, true, false, 1)
	wantMsgs(t, r.Receive(ack(2, 1, 5, most)))
	wantIs(t, r, true, true, false, 2)
}

// What a new next member acknowledged, after another one, may be less than what is committed: Commit stays, and no Ack is
// sent, but what is passed on begins there.
func TestP144AckBelowCommit(t *testing.T) {
	row := upTo(5)
	r := live(t, 2, full(5, 1, 2), row...)
	r.Adopt(joining(6, 1, 2, 3))
	wantIs(t, r, true, false, false, 5)
	wantMsgs(t, r.Again(), passes(2, 3, 6, 5, row, 0, 5)...)
	wantMsgs(t, r.Receive(ack(3, 2, 6, 3)))
	wantMsgs(t, r.Again(), passes(2, 3, 6, 5, row, 3, 5)...)
	wantMsgs(t, r.Receive(ack(3, 2, 6, 5)))
	wantIs(t, r, true, false, false, 5)
	wantMsgs(t, r.Receive(bare(1, 2, 6, 0, 0)), ack(2, 1, 6, 5))
}

// An Ack appends nothing, and a base in it is none.
func TestP144AckIsNoPass(t *testing.T) {
	r := live(t, 2, full(5, 1, 2, 3), "a")
	wantIgnored(t, r, chain.Msg{Kind: chain.Ack, From: 1, To: 2, Epoch: 5, Index: 1, Base: 9, Has: true, Cmd: "b"})
	m := chain.Msg{Kind: chain.Ack, From: 3, To: 2, Epoch: 5, Index: 1, Base: 9, Has: true, Cmd: "b"}
	wantMsgs(t, r.Receive(m), ack(2, 1, 5, 1))
	wantKeep(t, r, full(5, 1, 2, 3), "a")
}

// wantComplete checks whether a replica is complete.
func wantComplete(t testing.TB, r *chain.Replica, want bool) {
	t.Helper()
	if got := r.Complete(); got != want {
		t.Fatalf("Complete: %v", got)
	}
}

func TestP144Complete(t *testing.T) {
	r := live(t, 2, joining(5, 1, 2))
	wantComplete(t, r, false)
	r.Receive(bare(1, 2, 5, 3, 2))
	wantComplete(t, r, false)
	r.Receive(pass(1, 2, 5, 0, 2, "a"))
	wantComplete(t, r, false)
	r.Receive(pass(1, 2, 5, 1, 2, "b"))
	wantComplete(t, r, true)
	r.Receive(pass(1, 2, 5, 2, 2, "c"))
	wantComplete(t, r, true)
	r.Adopt(full(5, 1, 2))
	wantComplete(t, r, false)
	r.Adopt(joining(5, 1, 2))
	wantComplete(t, r, false)
}

// It is complete as soon as it heard that nothing is missing, if that is so.
func TestP144CompleteOfEmpty(t *testing.T) {
	for _, base := range []int{0, -1, least} {
		r := live(t, 2, joining(5, 1, 2))
		wantComplete(t, r, false)
		r.Receive(bare(1, 2, 5, 0, base))
		wantComplete(t, r, true)
	}
}

// The base is the greatest one that arrived, also with what is not appended.
func TestP144CompleteBase(t *testing.T) {
	r := live(t, 2, joining(5, 1, 2))
	r.Receive(bare(1, 2, 5, 0, 0))
	wantComplete(t, r, true)
	r.Receive(pass(1, 2, 5, 7, 2, "x"))
	wantComplete(t, r, false)
	r.Receive(bare(1, 2, 5, 0, 0))
	r.Receive(pass(1, 2, 5, 0, 1, "a"))
	wantComplete(t, r, false)
	r.Receive(pass(1, 2, 5, 1, 0, "b"))
	wantComplete(t, r, true)
	r.Receive(bare(1, 2, 5, 0, most))
	wantComplete(t, r, false)
}

// Only a message that is for it, and from the previous member, counts.
func TestP144CompleteHeard(t *testing.T) {
	r := live(t, 2, joining(5, 1, 2))
	for _, m := range []chain.Msg{bare(1, 3, 5, 0, 0), bare(1, 2, 4, 0, 0), bare(1, 2, 6, 0, 0), bare(3, 2, 5, 0, 0), ack(1, 2, 5, 0)} {
		r.Receive(m)
		wantComplete(t, r, false)
	}
	r.Receive(bare(1, 2, 5, 0, 0))
	wantComplete(t, r, true)
	r.Receive(bare(1, 2, 4, 0, 9))
	wantComplete(t, r, true)
}

// Only the last member, if it is new, and live, is.
func TestP144CompleteOfOthers(t *testing.T) {
	r := live(t, 2, full(5, 1, 2))
	r.Receive(bare(1, 2, 5, 0, 0))
	wantComplete(t, r, false)
	r = live(t, 2, joining(5, 1, 2, 3))
	r.Receive(bare(1, 2, 5, 0, 0))
	wantComplete(t, r, false)
	r = live(t, 1, joining(5, 1, 2))
	wantComplete(t, r, false)
	r = live(t, 1, joining(5, 1))
	wantComplete(t, r, false)
	wantComplete(t, restarted(2, joining(5, 1, 2)), false)
}

// In another epoch, and after a restart, it must hear from the previous member again.
func TestP144CompleteAnew(t *testing.T) {
	r := live(t, 2, joining(5, 1, 2))
	r.Receive(pass(1, 2, 5, 0, 1, "a"))
	wantComplete(t, r, true)
	r.Adopt(joining(5, 1, 2))
	wantComplete(t, r, true)
	r = chain.New(2, r.Keep())
	wantComplete(t, r, false)
	r.Adopt(joining(5, 1, 2))
	wantComplete(t, r, false)
	r.Receive(bare(1, 2, 5, 1, 1))
	wantComplete(t, r, true)
	r.Adopt(joining(6, 3, 2))
	wantComplete(t, r, false)
	r.Receive(bare(3, 2, 6, 0, 0))
	wantComplete(t, r, true)
	r.Receive(bare(3, 2, 6, 5, 5))
	r.Adopt(joining(7, 1, 2))
	r.Receive(bare(1, 2, 7, 0, 0))
	wantComplete(t, r, true)
	r.Adopt(full(8, 1))
	wantComplete(t, r, false)
}

// What is received is not changed, and results share no memory.
func TestP144ResultIsNew(t *testing.T) {
	r := live(t, 2, full(5, 1, 2, 3))
	a := r.Receive(pass(1, 2, 5, 0, 0, "a"))
	_ = append(a[:1], bare(9, 9, 9, 9, 9))
	a[0].Cmd = "x"
	b := r.Receive(pass(1, 2, 5, 1, 0, "b"))
	wantMsgs(t, b, pass(2, 3, 5, 1, 0, "b"), ack(2, 1, 5, 0))
	wantMsgs(t, r.Again(), passes(2, 3, 5, 0, []string{"a", "b"}, 0, 2)...)
}
