package queue

import (
	"slices"
	"strconv"
	"strings"

	"daisychain/api"
	"daisychain/lane"
	"daisychain/timer"
)

// message is what the layers below do not keep of one: from is the time from which on it can be received, if it is not
// leased. When a lease ends, that time is past, so that it stays as it is.
type message struct {
	body        string
	count, from int
}

// within tells whether a number is neither below the least one nor above the most.
func within(n, least, most int) bool { return least <= n && n <= most }

// empty has no messages be there. What is numbered next, and which keys are known, does not hang on them.
func (q *Queue) empty() {
	q.messages, q.lanes, q.leases, q.sent = map[int]*message{}, lane.New(), timer.New(), timer.New()
}

// takes tells whether a message may be sent so.
func (q *Queue) takes(body, group, key string, delay int) bool {
	most := maxTicks
	if q.attr.Fifo { // a later one of its group would wait for it
		most = -1
	}
	return max(len(body), len(group), len(key)) <= api.MaxText && (group != "") == q.attr.Fifo && within(delay, -1, most)
}

// add has a message be there; it tells its number.
func (q *Queue) add(body, group string, delay int) int {
	if delay < 0 {
		delay = q.attr.Delay
	}
	q.last++
	q.messages[q.last] = &message{body: body, from: q.now + delay}
	q.lanes.Add(group, q.last)
	q.sent.Set(q.last, q.now)
	return q.last
}

// remove has a message be gone.
func (q *Queue) remove(id int) {
	delete(q.messages, id)
	q.lanes.Drop(id)
	q.leases.Drop(id)
	q.sent.Drop(id)
}

// ready are the first messages that can be received, at most n.
func (q *Queue) ready(n int) []int {
	waits := func(id int) bool {
		_, leased := q.leases.At(id)
		return !leased && q.messages[id].from <= q.now
	}
	var l []int
	for _, id := range q.ahead() {
		if len(l) == n {
			break
		}
		if waits(id) {
			l = append(l, id)
		}
	}
	return l
}

// ahead are the messages that have no earlier one to wait for, in order. Without groups, these are all: the lane that
// has no name.
func (q *Queue) ahead() []int {
	if q.attr.Fifo {
		return q.lanes.Heads()
	}
	return q.lanes.Of("")
}

// lease has a message be received.
func (q *Queue) lease(id, until int) Took {
	m := q.messages[id]
	m.count++
	q.leases.Set(id, until)
	group, _ := q.lanes.Group(id)
	return Took{Id: id, Count: m.count, Receipt: receipt(id, m.count), Body: m.body, Group: group}
}

// receipt is what a message is leased with.
func receipt(id, count int) string { return strconv.Itoa(id) + "." + strconv.Itoa(count) }

// leasedWith is the message that is leased with a receipt. The number in it only finds that message: which texts are
// its receipt is told by the text alone, as there are other ways to write a number.
func (q *Queue) leasedWith(text string) (int, bool) {
	digits, _, _ := strings.Cut(text, ".")
	id, _ := strconv.Atoi(digits) // 0 where it is no number: no message has that one
	if _, leased := q.leases.At(id); !leased || text != receipt(id, q.messages[id].count) {
		return 0, false
	}
	return id, true
}

// release ends the leases that are past; it tells the messages that were received as often as they may be.
func (q *Queue) release() []Letter {
	due := q.leases.Due(q.now)
	slices.SortFunc(due, func(a, b timer.Item) int { return a.Id - b.Id })
	var dead []Letter
	for _, x := range due {
		m := q.messages[x.Id]
		if q.attr.Max == 0 || m.count < q.attr.Max {
			continue
		}
		group, _ := q.lanes.Group(x.Id)
		dead = append(dead, Letter{Id: x.Id, Count: m.count, Body: m.body, Group: group})
		q.remove(x.Id)
	}
	return dead
}

// expire removes the messages that were kept for long enough. Their numbers increase, as the times do at which they
// were sent.
func (q *Queue) expire() []int {
	var gone []int
	for _, x := range q.sent.Due(q.now - q.attr.Retain) {
		gone = append(gone, x.Id)
		q.remove(x.Id)
	}
	return gone
}
