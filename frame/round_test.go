package frame_test

import (
	"bytes"
	"math/rand"
	"slices"
	"testing"

	"daisychain/api"
	"daisychain/frame"
)

func TestP22ReadsWhatWasSealed(t *testing.T) {
	var b []byte
	var bodies [][]byte
	for n := 0; n <= api.MaxRecord; n += 1 + n/9 {
		body, rest, e := frame.Next(append(sealed(t, some(n)), b...))
		if e != api.OK || !bytes.Equal(body, some(n)) || !bytes.Equal(rest, b) {
			t.Error("Next of", n, "sealed bytes:", len(body), len(rest), e)
		}
		b = append(b, sealed(t, some(n))...)
		bodies = append(bodies, some(n))
	}
	wantAll(t, "sealed frames", b, bodies, len(b), api.OK)
	for i, want := range bodies {
		body, rest, e := frame.Next(b)
		if e != api.OK || !bytes.Equal(body, want) {
			t.Fatal("frame", i, ":", len(body), e)
		}
		b = rest
	}
	if len(b) != 0 {
		t.Error(len(b), "bytes remain")
	}
}

// wantNone checks that a frame of which bytes are changed is none any more, alone or ahead of others.
func wantNone(t *testing.T, changed []byte) {
	t.Helper()
	if body, rest, e := frame.Next(changed); e != api.ErrSum || len(body) != 0 || len(rest) != 0 {
		t.Fatalf("%x is a frame: %v", changed, e)
	}
}

// spoil changes consecutive bytes of a frame, from a place on, to each of those that change lists.
func spoil(t *testing.T, f []byte, at int, change [][]byte) {
	t.Helper()
	b := slices.Clone(f)
	for _, c := range change {
		for i, x := range c {
			b[at+i] = f[at+i] ^ x
		}
		wantNone(t, b)
		copy(b[at:], f[at:at+len(c)])
	}
}

// changes are what is done to n consecutive bytes: bits that turn, at least one of the first byte and one of the last.
func changes(n int) [][]byte {
	r := rand.New(rand.NewSource(int64(n)))
	var l [][]byte
	for i := range 255 {
		for range min(n, 2) {
			c := make([]byte, n)
			r.Read(c)
			c[0] = byte(i + 1)
			c[n-1] = max(c[n-1], 1)
			l = append(l, c)
		}
	}
	return append(l, bytes.Repeat([]byte{255}, n), bytes.Repeat([]byte{1}, n), bytes.Repeat([]byte{128}, n))
}

func TestP22ChangedBytes(t *testing.T) {
	for n := 1; n <= 4; n++ {
		change := changes(n)
		for _, size := range []int{0, 1, 4, 5, 30} {
			f := sealed(t, some(size))
			for at := 2; at+n <= 6; at++ {
				spoil(t, f, at, change)
			}
			for at := 6; at+n <= len(f); at++ {
				spoil(t, f, at, change)
			}
		}
		f := sealed(t, some(api.MaxRecord))
		for _, at := range []int{6, 7, 2000, len(f) - n - 1, len(f) - n} {
			spoil(t, f, at, change[:20])
		}
	}
}

// Each of two bytes is changed to whatever else it may be.
func TestP22AllChangesOfTwoBytes(t *testing.T) {
	f := sealed(t, some(3))
	for _, at := range []int{2, 3, 4, 6, 7} {
		for i := 1; i < 1<<16; i++ {
			b := slices.Clone(f)
			b[at] ^= byte(i)
			b[at+1] ^= byte(i >> 8)
			wantNone(t, b)
		}
	}
}

// A changed frame ends what All reads: those ahead of it are read, those behind it aren't.
func TestP22AllStopsAtChange(t *testing.T) {
	front := slices.Concat(sealed(t, some(3)), sealed(t, some(0)))
	f := sealed(t, some(8))
	for at := 2; at < len(f); at++ {
		changed := slices.Clone(f)
		changed[at] ^= 16
		wantAll(t, "a changed frame", slices.Concat(front, changed, front), [][]byte{some(3), {}}, len(front), api.ErrSum)
	}
}

// Whatever the bytes, Next and All agree, and what they read is what was sealed.
func FuzzP22(f *testing.F) {
	for _, c := range amiss() {
		f.Add(slices.Concat(framed(some(4)), c.b))
	}
	f.Fuzz(func(t *testing.T, b []byte) {
		l, used, e := frame.All(b)
		var again []byte
		for _, body := range l {
			again = append(again, sealed(t, body)...)
		}
		if !bytes.Equal(again, b[:used]) {
			t.Fatalf("%x is read as %x", b, l)
		}
		if (e == api.OK) != (used == len(b)) {
			t.Fatalf("%x: All reads %d bytes, and stops with %v", b, used, e)
		}
		if _, _, stop := frame.Next(b[used:]); e != api.OK && stop != e {
			t.Fatalf("%x: All stops with %v, Next with %v", b, e, stop)
		}
	})
}
