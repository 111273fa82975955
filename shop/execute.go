package shop

import (
	"cmp"
	"errors"

	"daisychain/api"
	"daisychain/queue"
)

// code is the number of an error. OK is none, although as an error it is not nil.
func code(err error) int {
	var e api.Errno
	if errors.As(err, &e) {
		return int(e)
	}
	return 0
}

// execute does a command, whoever requests it; the answer is without its Code.
func (s *Shop) execute(c Cmd) (Answer, error) {
	q, is := s.queues[c.Queue]
	switch {
	case c.Kind < Tick || c.Kind > Extend:
		return Answer{}, api.ErrArg
	case c.Kind == Tick:
		return s.tick(c.N)
	case c.Kind == Create:
		return s.create(c.Queue, c.A)
	case !is:
		return Answer{}, api.ErrName
	}
	switch c.Kind {
	case Delete:
		delete(s.queues, c.Queue)
		fallthrough
	case Purge:
		return numbered(q.Purge(), api.OK)
	case Set:
		return Answer{}, q.Set(c.A)
	case Send:
		return numbered(q.Send(c.Body, c.Group, c.Key, c.N))
	case Batch:
		return batch(q, c)
	case Receive:
		l, e := q.Receive(c.N, c.M)
		return Answer{Took: l}, e
	case Ack:
		return numbered(q.Ack(c.Receipt))
	}
	return Answer{}, q.Extend(c.Receipt, c.N)
}

// numbered is the answer that has one number, if there is no error.
func numbered(n int, e api.Errno) (Answer, error) {
	if e != api.OK {
		return Answer{}, e
	}
	return Answer{Ids: []int{n}}, nil
}

// create has a queue be there.
func (s *Shop) create(name string, a queue.Attr) (Answer, error) {
	if name == "" || len(name) > maxName || !queue.Right(a) {
		return Answer{}, api.ErrArg
	}
	if _, is := s.queues[name]; is {
		return Answer{}, api.ErrTwice
	}
	if len(s.queues) >= maxQueues {
		return Answer{}, api.ErrFull
	}
	q := queue.New(a)
	q.Tick(s.now)
	s.queues[name] = q
	return Answer{}, nil
}

// batch sends several messages; those that were sent ahead of an error stay.
func batch(q *queue.Queue, c Cmd) (a Answer, err error) {
	if len(c.Bodies) == 0 || len(c.Bodies) > api.MaxBatch {
		return Answer{}, api.ErrArg
	}
	for _, body := range c.Bodies {
		id, e := q.Send(body, c.Group, "", c.N)
		if e != api.OK {
			return a, e
		}
		a.Ids = append(a.Ids, id)
	}
	return a, nil
}

// grave is a dead message, and the queue to which it moves.
type grave struct {
	to     string
	letter queue.Letter
}

// tick has time go on. No dead message moves before all queues have the new time: to a queue that has not, it would
// come too early, and might not find the room that this Tick makes.
func (s *Shop) tick(now int) (Answer, error) {
	if now < s.now || now > api.MaxTime {
		return Answer{}, api.ErrArg
	}
	s.now = now
	var graves []grave
	expired := 0
	for _, name := range s.Names() {
		q := s.queues[name]
		dead, gone := q.Tick(now)
		for _, x := range dead {
			graves = append(graves, grave{q.Attr().Dead, x})
		}
		expired += len(gone)
	}
	moved := 0
	for _, g := range graves {
		if s.move(g) {
			moved++
		}
	}
	return Answer{Ids: []int{moved, len(graves) - moved, expired}}, nil
}

// move sends a dead message to where it goes; it tells whether it is there.
func (s *Shop) move(g grave) bool {
	q, is := s.queues[g.to]
	if !is {
		return false
	}
	group := ""
	if q.Attr().Fifo {
		group = cmp.Or(g.letter.Group, "dead")
	}
	_, e := q.Send(g.letter.Body, group, "", -1)
	return e == api.OK
}
