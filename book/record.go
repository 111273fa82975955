package book

import (
	"bytes"
	"slices"

	"daisychain/chain"
	"daisychain/coil"
	"daisychain/master"
)

// The numbers with which records begin.
const (
	ofConfig = 0
	ofCmd    = 1
)

// The limits of what a record has.
const (
	mostMembers = 10
	mostBytes   = 3000
)

// canKeep tells whether records can have all of it.
func canKeep(k chain.Keep) bool {
	negative := func(n int) bool { return n < 0 }
	long := func(cmd string) bool { return len(cmd) > mostBytes }
	c := k.Config
	return !negative(c.Epoch) &&
		len(c.Members) <= mostMembers &&
		!slices.ContainsFunc(c.Members, negative) &&
		!slices.ContainsFunc(k.Row, long)
}

// record is one: a command, or a configuration, which may discard the row.
type record struct {
	isCmd    bool
	cmd      string
	config   master.Config
	discards bool
}

// bytes are those of the record.
func (r record) bytes() []byte {
	if r.isCmd {
		return coil.Text(coil.Num(nil, ofCmd), r.cmd)
	}
	var b []byte
	for _, n := range []int{ofConfig, r.config.Epoch, flag(r.config.Joining), flag(r.discards)} {
		b = coil.Num(b, n)
	}
	return coil.Nums(b, r.config.Members)
}

// recordOf is the record with these bytes, and whether there is one. What was read is written again and compared, since
// the reader has no error for a number that is no kind, nor for a flag that is neither 0 nor 1.
func recordOf(b []byte) (record, bool) {
	var r record
	from := coil.Of(b)
	if r.isCmd = from.Num() == ofCmd; r.isCmd {
		r.cmd = from.Text(mostBytes)
	} else {
		r.config.Epoch = from.Num()
		r.config.Joining = from.Num() == 1
		r.discards = from.Num() == 1
		r.config.Members = from.Nums(mostMembers)
	}
	return r, bytes.Equal(r.bytes(), b)
}

// change has what is kept be what results from it by the record.
func (r record) change(k *chain.Keep) {
	if r.isCmd {
		k.Row = append(k.Row, r.cmd)
		return
	}
	k.Config = r.config
	if r.discards {
		k.Row = nil
	}
}

// flag is a bool as a number.
func flag(is bool) int {
	if is {
		return 1
	}
	return 0
}
