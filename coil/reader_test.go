package coil_test

import (
	"bytes"
	"errors"
	"math"
	"slices"
	"strings"
	"testing"

	"daisychain/api"
	"daisychain/coil"
)

// The three ways to read.
const (
	num = iota
	text
	nums
)

// value is what one call read: only the field of its way is filled.
type value struct {
	n int
	s string
	l []int
}

func (v value) equal(o value) bool { return v.n == o.n && v.s == o.s && slices.Equal(v.l, o.l) }

// take reads one thing.
func take(r *coil.Reader, way, most int) value {
	switch way {
	case num:
		return value{n: r.Num()}
	case text:
		return value{s: r.Text(most)}
	default:
		return value{l: r.Nums(most)}
	}
}

// wantFault checks that err is a Fault at that byte that wraps e.
func wantFault(t *testing.T, err error, at int, e api.Errno) {
	t.Helper()
	var f *coil.Fault
	if !errors.As(err, &f) || !errors.Is(err, e) || f.At != at {
		t.Errorf("error %v, want byte %d and %v", err, at, e)
	}
}

// wantPlace checks where a reader is.
func wantPlace(t *testing.T, r *coil.Reader, at, left int) {
	t.Helper()
	if r.At() != at || r.Left() != left {
		t.Errorf("At %d, Left %d, want %d, %d", r.At(), r.Left(), at, left)
	}
}

func TestP12Reads(t *testing.T) {
	for i, c := range []struct {
		b         []byte
		way, most int
		want      value
	}{
		{[]byte{0}, num, 0, value{}},
		{[]byte{127}, num, 0, value{n: 127}},
		{[]byte{128, 1}, num, 0, value{n: 128}},
		{[]byte{172, 2}, num, 0, value{n: 300}},
		{[]byte{128, 128, 1}, num, 0, value{n: 1 << 14}},
		{[]byte{128, 128, 128, 128, 128, 128, 128, 128, 1}, num, 0, value{n: 1 << 56}},
		{append(full(8), 127), num, 0, value{n: math.MaxInt}},
		{[]byte{0}, text, 0, value{}},
		{[]byte{0}, text, 5, value{}},
		{[]byte{3, 97, 98, 99}, text, 3, value{s: "abc"}},
		{[]byte{3, 97, 98, 99}, text, math.MaxInt, value{s: "abc"}},
		{[]byte{2, 0, 255}, text, 2, value{s: "\x00\xff"}},
		{join([]byte{128, 1}, bytes.Repeat([]byte("x"), 128)), text, 128, value{s: strings.Repeat("x", 128)}},
		{[]byte{0}, nums, 0, value{}},
		{[]byte{3, 1, 172, 2, 0}, nums, 3, value{l: []int{1, 300, 0}}},
		{[]byte{1, 5}, nums, math.MaxInt, value{l: []int{5}}},
		{join([]byte{1}, full(8), []byte{127}), nums, 1, value{l: []int{math.MaxInt}}},
		{join([]byte{130, 1}, make([]byte, 130)), nums, 130, value{l: make([]int, 130)}},
	} {
		// Alone, and between other bytes.
		r := coil.Of(c.b)
		if v := take(r, c.way, c.most); !v.equal(c.want) || r.Err() != nil || r.Done() != nil {
			t.Error(i, v, r.Err(), r.Done())
		}
		wantPlace(t, r, len(c.b), 0)
		r = coil.Of(join([]byte{172, 2}, c.b, []byte{128, 0}))
		r.Num()
		if v := take(r, c.way, c.most); !v.equal(c.want) || r.Err() != nil {
			t.Error(i, "between others:", v, r.Err())
		}
		wantPlace(t, r, 2+len(c.b), 2)
	}
}

// failures are bytes from which nothing can be read, and why.
var failures = []struct {
	b         []byte
	way, most int
	e         api.Errno
}{
	{nil, num, 0, api.ErrEnd},
	{[]byte{128}, num, 0, api.ErrEnd},
	{[]byte{128, 128}, num, 0, api.ErrEnd},
	{full(8), num, 0, api.ErrEnd},
	{[]byte{128, 0}, num, 0, api.ErrForm},
	{[]byte{255, 0}, num, 0, api.ErrForm},
	{[]byte{129, 128, 0}, num, 0, api.ErrForm},
	{append(full(8), 0), num, 0, api.ErrForm},
	{full(9), num, 0, api.ErrForm},
	{bytes.Repeat([]byte{128}, 9), num, 0, api.ErrForm},
	{append(full(9), 0), num, 0, api.ErrForm},
	{append(full(9), 1), num, 0, api.ErrForm},
	{full(20), num, 0, api.ErrForm},

	{nil, text, 9, api.ErrEnd},
	{[]byte{129}, text, 300, api.ErrEnd},
	{[]byte{3}, text, 3, api.ErrEnd},
	{[]byte{3, 97, 98}, text, 3, api.ErrEnd},
	{[]byte{3, 97, 98}, text, 2, api.ErrForm},
	{[]byte{3, 97, 98, 99}, text, 2, api.ErrForm},
	{[]byte{3, 97, 98, 99}, text, 0, api.ErrForm},
	{[]byte{3, 97, 98, 99}, text, math.MinInt, api.ErrForm},
	{[]byte{0}, text, -1, api.ErrForm},
	{[]byte{131, 0, 97, 98, 99}, text, 9, api.ErrForm},
	{full(9), text, 9, api.ErrForm},
	{append(full(8), 127), text, math.MaxInt, api.ErrEnd},
	{append(full(8), 127), text, math.MaxInt - 1, api.ErrForm},

	{nil, nums, 9, api.ErrEnd},
	{[]byte{129}, nums, 300, api.ErrEnd},
	{[]byte{2, 1}, nums, 2, api.ErrEnd},
	{[]byte{2, 1, 128}, nums, 2, api.ErrEnd},
	{[]byte{2, 1}, nums, 1, api.ErrForm},
	{[]byte{2, 1, 2}, nums, 1, api.ErrForm},
	{[]byte{2, 1, 2}, nums, math.MinInt, api.ErrForm},
	{[]byte{0}, nums, -1, api.ErrForm},
	{[]byte{130, 0, 1, 2}, nums, 9, api.ErrForm},
	{[]byte{2, 1, 128, 0}, nums, 2, api.ErrForm},
	{[]byte{9, 1, 128, 0}, nums, 9, api.ErrForm}, // too few bytes as well
	{join([]byte{9}, full(9)), nums, 9, api.ErrForm},
	{full(9), nums, 9, api.ErrForm},
	{append(full(8), 127), nums, math.MaxInt, api.ErrEnd},
	{append(full(8), 127), nums, math.MaxInt - 1, api.ErrForm},
}

func TestP12Fails(t *testing.T) {
	for i, c := range failures {
		for _, front := range [][]byte{nil, {5}, {5, 6, 7}} {
			b := join(front, c.b)
			r := coil.Of(b)
			for range front {
				r.Num()
			}
			if r.Err() != nil {
				t.Error(i, "failed too soon:", r.Err())
			}
			if v := take(r, c.way, c.most); !v.equal(value{}) {
				t.Error(i, "read", v)
			}
			wantFault(t, r.Err(), len(front), c.e)
			wantFault(t, r.Done(), len(front), c.e)
			wantPlace(t, r, len(front), len(c.b))
			if t.Failed() {
				t.Fatal("at failure", i, b)
			}
		}
	}
}

// A number, a text and a list are there, whole, but the reader failed before: it stays so.
func TestP12StaysFailed(t *testing.T) {
	for _, c := range []struct {
		b    []byte
		way  int
		most int
		e    api.Errno
	}{
		{[]byte{5, 1, 7}, text, 0, api.ErrForm},
		{[]byte{5, 2, 7}, text, 9, api.ErrEnd},
		{[]byte{5, 1, 7}, nums, 0, api.ErrForm},
		{[]byte{5, 2, 7}, nums, 9, api.ErrEnd},
		{[]byte{5, 128, 0, 1}, num, 0, api.ErrForm},
	} {
		r := coil.Of(c.b)
		r.Num()
		take(r, c.way, c.most)
		for range 2 {
			for way := range 3 {
				if v := take(r, way, 9); !v.equal(value{}) {
					t.Error(c.b, "read after a failure:", v)
				}
				wantFault(t, r.Err(), 1, c.e)
				wantFault(t, r.Done(), 1, c.e)
				wantPlace(t, r, 1, len(c.b)-1)
			}
		}
	}
}

func TestP12Done(t *testing.T) {
	r := coil.Of([]byte{5, 6})
	wantFault(t, r.Done(), 0, api.ErrForm)
	if r.Err() != nil {
		t.Error("Done made the reader fail:", r.Err())
	}
	if n := r.Num(); n != 5 {
		t.Error("Num after Done:", n)
	}
	wantFault(t, r.Done(), 1, api.ErrForm)
	if n := r.Num(); n != 6 || r.Done() != nil || r.Err() != nil {
		t.Error("at the end:", n, r.Done(), r.Err())
	}
	r.Num()
	wantFault(t, r.Done(), 2, api.ErrEnd)
	if coil.Of(nil).Done() != nil || coil.Of([]byte{}).Done() != nil {
		t.Error("Done of no bytes")
	}
}

// A reader has a copy of its bytes, and gives out nothing of what it has.
func TestP12NewMemory(t *testing.T) {
	b := []byte{2, 1, 2, 3, 97, 98, 99}
	r := coil.Of(b)
	clear(b)
	l := r.Nums(2)
	s := r.Text(3)
	if !slices.Equal(l, []int{1, 2}) || s != "abc" || r.Done() != nil {
		t.Error("a reader shares its argument:", l, s, r.Done())
	}
	whole := []byte{5, 6, 7}
	r = coil.Of(whole[:1])
	r.Num()
	if r.Left() != 0 || r.Num() != 0 {
		t.Error("a reader reads what is behind its bytes")
	}
	if !bytes.Equal(whole, []byte{5, 6, 7}) {
		t.Error("a reader changed its argument:", whole)
	}
	var f *coil.Fault
	if errors.As(r.Err(), &f) {
		f.At, f.Err = 99, nil
	}
	wantFault(t, r.Err(), 1, api.ErrEnd)
	wantFault(t, r.Done(), 1, api.ErrEnd)
}

// loud is an error that panics when it is asked for its text.
type loud struct{}

func (loud) Error() string { panic("no text") }

func TestP12Fault(t *testing.T) {
	for _, c := range []struct {
		f    coil.Fault
		want string
	}{
		{coil.Fault{At: 0, Err: api.ErrForm}, "byte 0: daisychain 2"},
		{coil.Fault{At: 12, Err: api.ErrEnd}, "byte 12: daisychain 3"},
		{coil.Fault{At: 7}, "byte 7: "},
		{coil.Fault{}, "byte 0: "},
		{coil.Fault{At: -3, Err: errors.New("x: y")}, "byte -3: x: y"},
		{coil.Fault{At: math.MaxInt, Err: errors.New("")}, "byte 9223372036854775807: "},
		{coil.Fault{At: 1, Err: &coil.Fault{At: 2, Err: api.ErrArg}}, "byte 1: byte 2: daisychain 1"},
		{coil.Fault{At: 1, Err: loud{}}, "byte 1: "},
	} {
		if s := c.f.Error(); s != c.want {
			t.Errorf("Error of %d: %q, want %q", c.f.At, s, c.want)
		}
		if c.f.Unwrap() != c.f.Err {
			t.Error("Unwrap of", c.f.At)
		}
	}
	r := coil.Of([]byte{0, 128})
	r.Num()
	r.Num()
	if s := r.Err().Error(); s != "byte 1: daisychain 3" {
		t.Error("text of an error:", s)
	}
}
