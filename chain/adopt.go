package chain

import "daisychain/master"

// Adopt has a configuration.
func (r *Replica) Adopt(c master.Config) []Msg {
	if c.Epoch < r.Epoch() {
		return nil
	}
	same := c.Epoch == r.Epoch()
	was := r.live && same
	if same {
		r.kept.Config.Joining = r.kept.Config.Joining && c.Joining
	} else {
		r.enter(c)
	}
	r.live = r.kept.Config.At(r.id) >= 0
	if r.Tail() {
		r.commit = len(r.kept.Row)
	}
	if !was {
		r.begin()
	}
	return r.Again()
}

// enter has a later configuration. A new member discards its row: it may have been a member before, with commands that were
// never committed.
func (r *Replica) enter(c master.Config) {
	r.kept.Config = own(c)
	if c.Joining && r.last() {
		r.kept.Row, r.commit, r.told = nil, 0, 0
	}
}

// begin forgets what it had of the members beside it, which may be others now, or may have restarted.
func (r *Replica) begin() {
	r.acked, r.base = 0, len(r.kept.Row)
	r.heard, r.needed = false, 0
}
