package master

import (
	"slices"

	"daisychain/api"
)

// Do does an order.
func (t *Table) Do(o Order) api.Errno {
	if o.Kind < Init || o.Kind > Full || o.Shard < 0 || o.Shard > lastShard {
		return api.ErrArg
	}
	c, e := t.result(o)
	if e == api.OK {
		t.configs[o.Shard] = c
	}
	return e
}

// result is the configuration that an order leads to.
func (t *Table) result(o Order) (Config, api.Errno) {
	c, is := t.configs[o.Shard]
	switch {
	case o.Kind == Init && is:
		return Config{}, api.ErrTwice
	case o.Kind == Init:
		return first(o.Members)
	case !is:
		return Config{}, api.ErrName
	case o.Epoch != c.Epoch:
		return Config{}, api.ErrOld
	case o.Kind == Drop:
		return c.without(o.Node)
	case o.Kind == Join:
		return c.with(o.Node)
	}
	return c.done(o.Node)
}

// first is the configuration that a chain begins with.
func first(members []int) (Config, api.Errno) {
	c := Config{Epoch: 1, Members: members}
	if !c.right() {
		return Config{}, api.ErrArg
	}
	c.Members = slices.Clone(members)
	return c, api.OK
}

// without is what a Drop leads to. If the last member was new, it still is, unless it was the one to go.
func (c Config) without(node int) (Config, api.Errno) {
	i := c.At(node)
	if i < 0 {
		return Config{}, api.ErrName
	}
	left := slices.Delete(slices.Clone(c.Members), i, i+1)
	next := Config{c.Epoch + 1, left, c.Joining && i < len(left)}
	if next.manyFull() < 1 {
		return Config{}, api.ErrState
	}
	return next, api.OK
}

// with is what a Join leads to.
func (c Config) with(node int) (Config, api.Errno) {
	switch {
	case node < 0 || node > lastNode:
		return Config{}, api.ErrArg
	case c.At(node) >= 0:
		return Config{}, api.ErrTwice
	case c.Joining || len(c.Members) >= api.MaxNodes:
		return Config{}, api.ErrState
	}
	return Config{c.Epoch + 1, append(slices.Clone(c.Members), node), true}, api.OK
}

// done is what a Full leads to.
func (c Config) done(node int) (Config, api.Errno) {
	if !c.Joining || c.At(node) != len(c.Members)-1 {
		return Config{}, api.ErrState
	}
	return Config{c.Epoch, c.Members, false}, api.OK
}
