package chain

import "daisychain/api"

// batch is how many commands Again passes on at most.
const batch = 8

// Order has the head take a command.
func (r *Replica) Order(cmd string) (int, []Msg, api.Errno) {
	if !r.Head() {
		return 0, nil, api.ErrTurn
	}
	l := r.add(cmd)
	return len(r.kept.Row), l, api.OK
}

// Again passes on what was not acknowledged.
func (r *Replica) Again() []Msg {
	return r.pass(r.acked, min(r.acked+batch, len(r.kept.Row)))
}

// Receive has a message come.
func (r *Replica) Receive(m Msg) []Msg {
	if !r.live || m.To != r.id || m.Epoch != r.Epoch() || m.From == none {
		return nil
	}
	switch {
	case m.Kind == Pass && m.From == r.kept.Config.Before(r.id):
		return r.take(m)
	case m.Kind == Ack && m.From == r.kept.Config.Next(r.id):
		return r.acknowledge(m.Index)
	}
	return nil
}

// take has what the previous member passed on. A command that is not the next one is left: that member passes on again
// what it gets no Ack for.
func (r *Replica) take(m Msg) []Msg {
	r.heard, r.needed = true, max(r.needed, m.Base)
	var l []Msg
	if m.Has && m.Index == len(r.kept.Row) {
		l = r.add(m.Cmd)
	}
	return append(l, r.ack()...)
}

// acknowledge has the next member's commands be committed here too.
func (r *Replica) acknowledge(index int) []Msg {
	r.acked = max(r.acked, min(index, len(r.kept.Row)))
	if r.acked <= r.commit {
		return nil
	}
	r.commit = r.acked
	return r.ack()
}

// add has one more command in the row, which the tail commits, and others pass on. Behind three indexes it goes to a new
// array, so that no list that shares the old one ever has it in its spare capacity.
func (r *Replica) add(cmd string) []Msg {
	n := len(r.kept.Row)
	r.kept.Row = append(r.kept.Row[:n:n], cmd)
	if r.Tail() {
		r.commit = n + 1
		return nil
	}
	return r.pass(n, n+1)
}

// pass is what passes on, to the next member, the commands from one place of the row to another, or, if these are none,
// tells it what its base is.
func (r *Replica) pass(from, to int) []Msg {
	next := r.kept.Config.Next(r.id)
	if !r.live || next == none {
		return nil
	}
	m := Msg{Kind: Pass, From: r.id, To: next, Epoch: r.Epoch(), Index: from, Base: r.base}
	if from == to {
		return []Msg{m}
	}
	var l []Msg
	for _, cmd := range r.kept.Row[from:to] {
		m.Has, m.Cmd = true, cmd
		l = append(l, m)
		m.Index++
	}
	return l
}

// ack tells the previous member, if there is one, what is committed.
func (r *Replica) ack() []Msg {
	before := r.kept.Config.Before(r.id)
	if before == none {
		return nil
	}
	return []Msg{{Kind: Ack, From: r.id, To: before, Epoch: r.Epoch(), Index: r.commit}}
}
