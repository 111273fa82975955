package cmd_test

import (
	"bytes"
	"errors"
	"math/rand"
	"reflect"
	"slices"
	"strings"
	"testing"

	"daisychain/api"
	"daisychain/coil"
	"daisychain/queue"
	"daisychain/shop"
)

// limit is the greatest number that is valid.
const limit = 1 << 62

// num is a number as the words of layer 1 say it.
func num(n int) []byte {
	u := uint64(n)
	if u < 128 {
		return []byte{byte(u)}
	}
	return append([]byte{byte(128 + u%128)}, num(int(u/128))...)
}

// text is a text as the words of layer 1 say it.
func text(s string) []byte { return append(num(len(s)), s...) }

func join(l ...[]byte) []byte { return slices.Concat(l...) }

// plain is the encoding of a command as the words of the chapter say it, whether it is valid or not; count is the
// number that says how many Bodies there are.
func plain(c shop.Cmd, fifo, count int) []byte {
	b := join(num(c.Client), num(c.Req), num(c.Kind), num(c.N+1), num(c.M))
	b = join(b, num(c.A.Visible), num(c.A.Retain), num(c.A.Delay), num(c.A.Window), num(c.A.Max), num(fifo))
	b = join(b, text(c.Queue), text(c.A.Dead), text(c.Body), text(c.Group), text(c.Key), text(c.Receipt), num(count))
	for _, s := range c.Bodies {
		b = join(b, text(s))
	}
	return b
}

func plainOf(c shop.Cmd) []byte {
	fifo := 0
	if c.A.Fifo {
		fifo = 1
	}
	return plain(c, fifo, len(c.Bodies))
}

// plainAnswer is the same of an answer; count is the number that says how many messages there are.
func plainAnswer(a shop.Answer, count int) []byte {
	b := join(num(a.Code), num(len(a.Ids)))
	for _, n := range a.Ids {
		b = join(b, num(n))
	}
	b = join(b, num(count))
	for _, x := range a.Took {
		b = join(b, num(x.Id), num(x.Count), text(x.Receipt), text(x.Body), text(x.Group))
	}
	return b
}

func plainOfAnswer(a shop.Answer) []byte { return plainAnswer(a, len(a.Took)) }

// sameCmd compares commands; empty lists are equal, nil or not.
func sameCmd(a, b shop.Cmd) bool {
	if !slices.Equal(a.Bodies, b.Bodies) {
		return false
	}
	a.Bodies, b.Bodies = nil, nil
	return reflect.DeepEqual(a, b)
}

// wantError checks that nothing but an error that wraps e was returned.
func wantError(t *testing.T, what string, zero bool, err error, e api.Errno) {
	t.Helper()
	var is api.Errno
	if !errors.Is(err, e) || errors.Unwrap(err) == nil || !errors.As(err, &is) || is != e || !strings.HasSuffix(err.Error(), e.Error()) {
		t.Errorf("%s: error %v, want one that wraps %v", what, err, e)
	}
	if !zero {
		t.Errorf("%s: a result beside the error %v", what, err)
	}
}

// wantFault checks that the error is a reader's, at that byte.
func wantFault(t *testing.T, what string, zero bool, err error, at int, e api.Errno) {
	t.Helper()
	wantError(t, what, zero, err, e)
	var f *coil.Fault
	if !errors.As(err, &f) || f.At != at {
		t.Errorf("%s: error %v, want a Fault at byte %d", what, err, at)
	}
}

// long is a text of n bytes.
func long(n int) string { return strings.Repeat("x", n) }

// many is a list of n of the same.
func many[T any](n int, v T) []T { return slices.Repeat([]T{v}, n) }

// fullCmd has something of its own in each field.
func fullCmd() shop.Cmd {
	return shop.Cmd{
		Client: 1, Req: 2, Kind: 3, N: 4, M: 300,
		A:     queue.Attr{Visible: 6, Retain: 7, Delay: 8, Window: 9, Max: 10, Dead: "de", Fifo: true},
		Queue: "q", Body: "bod", Group: "grou", Key: "keyed", Receipt: "2.1234", Bodies: []string{"", "yy"},
	}
}

// fullAnswer has something of its own in each field.
func fullAnswer() shop.Answer {
	return shop.Answer{Code: 5, Ids: []int{6, 300, 7}, Took: []queue.Took{
		{Id: 8, Count: 9, Receipt: "8.9", Body: "body", Group: ""},
		{Id: 10, Count: 1, Receipt: "10.1", Body: "", Group: "g"},
	}}
}

// anyNum is a number, often one at an edge.
func anyNum(r *rand.Rand) int {
	switch r.Intn(4) {
	case 0:
		return r.Intn(200)
	case 1:
		return limit - r.Intn(3)
	case 2:
		return 1<<r.Intn(62) - r.Intn(2)
	}
	return 0
}

// anyText is a text, often a short one.
func anyText(r *rand.Rand) string {
	b := make([]byte, []int{0, 1, 5, 127, 128, 256}[min(r.Intn(12), 5)])
	r.Read(b)
	return string(b)
}

// anyCmd is a command that is valid.
func anyCmd(r *rand.Rand) shop.Cmd {
	c := shop.Cmd{Client: anyNum(r), Req: anyNum(r), Kind: anyNum(r), N: anyNum(r) - 1, M: anyNum(r)}
	c.A = queue.Attr{Visible: anyNum(r), Retain: anyNum(r), Delay: anyNum(r), Window: anyNum(r), Max: anyNum(r), Dead: anyText(r), Fifo: r.Intn(2) == 0}
	c.Queue, c.Body, c.Group, c.Key, c.Receipt = anyText(r), anyText(r), anyText(r), anyText(r), anyText(r)
	for range max(r.Intn(21)-10, 0) {
		c.Bodies = append(c.Bodies, anyText(r))
	}
	return c
}

// anyAnswer is an answer that is valid.
func anyAnswer(r *rand.Rand) shop.Answer {
	a := shop.Answer{Code: anyNum(r)}
	for range max(r.Intn(21)-10, 0) {
		a.Ids = append(a.Ids, anyNum(r))
	}
	for range max(r.Intn(21)-10, 0) {
		a.Took = append(a.Took, queue.Took{Id: anyNum(r), Count: anyNum(r), Receipt: anyText(r), Body: anyText(r), Group: anyText(r)})
	}
	return a
}

// changes are other bytes than b, near it: each is given to try. Of many bytes only some are changed.
func changes(b []byte, try func(b []byte)) {
	for i := 0; i < len(b); i += 1 + len(b)/150 {
		for _, x := range []byte{0, 1, 2, 10, 11, 127, 128, 255, b[i] - 1, b[i] + 1, b[i] ^ 128} {
			if x != b[i] {
				c := bytes.Clone(b)
				c[i] = x
				try(c)
			}
		}
		try(slices.Delete(bytes.Clone(b), i, i+1))
		try(slices.Insert(bytes.Clone(b), i, 0))
		try(slices.Insert(bytes.Clone(b), i, 128))
		try(bytes.Clone(b[:i]))
	}
	try(append(bytes.Clone(b), 0))
}
