package frame_test

import (
	"bytes"
	"hash/crc32"
	"math/rand"
	"slices"
	"testing"

	"daisychain/api"
	"daisychain/frame"
)

// sizes are how many bytes the frames of these tests have: the limit on both sides of a byte, and of a frame.
var sizes = []int{0, 1, 2, 3, 4, 5, 6, 7, 100, 255, 256, 257, 4095, 4096}

// some is n bytes of all kinds.
func some(n int) []byte {
	b := make([]byte, n)
	rand.New(rand.NewSource(int64(n))).Read(b)
	return b
}

// framed is the frame of b, put together by the document's words; it also frames more bytes than a frame may have.
func framed(b []byte) []byte {
	size := []byte{byte(len(b)), byte(len(b) >> 8)}
	sum := crc32.ChecksumIEEE(slices.Concat(size, b))
	return slices.Concat(size, []byte{byte(sum), byte(sum >> 8), byte(sum >> 16), byte(sum >> 24)}, b)
}

// sealed is the frame of b.
func sealed(t testing.TB, b []byte) []byte {
	t.Helper()
	f, e := frame.Seal(b)
	if e != api.OK {
		t.Fatal("Seal of", len(b), "bytes:", e)
	}
	return f
}

func TestP21Seal(t *testing.T) {
	for _, c := range []struct {
		b    []byte
		want []byte
	}{
		{nil, []byte{0, 0, 0xff, 0x12, 0xd9, 0x41}},
		{[]byte{}, []byte{0, 0, 0xff, 0x12, 0xd9, 0x41}},
		{[]byte("abc"), []byte{3, 0, 0x1d, 0x15, 0xe7, 0x4b, 'a', 'b', 'c'}},
	} {
		if f := sealed(t, c.b); !bytes.Equal(f, c.want) {
			t.Errorf("Seal(%v) = %x", c.b, f)
		}
	}
	for _, n := range sizes {
		if f := sealed(t, some(n)); !bytes.Equal(f, framed(some(n))) {
			t.Errorf("Seal of %d bytes begins %x", n, f[:6])
		}
	}
}

func TestP21SealFull(t *testing.T) {
	for _, n := range []int{4097, 4098, 1 << 16, 1<<16 + 1, 1 << 20} {
		if f, e := frame.Seal(some(n)); e != api.ErrFull || len(f) != 0 {
			t.Error("Seal of", n, "bytes:", len(f), e)
		}
	}
}

func TestP21Next(t *testing.T) {
	for _, n := range sizes {
		for _, rest := range [][]byte{nil, {7}, some(6), some(5000), framed(some(9))} {
			body, left, e := frame.Next(slices.Concat(framed(some(n)), rest))
			if e != api.OK || !bytes.Equal(body, some(n)) || !bytes.Equal(left, rest) {
				t.Error("Next of", n, "bytes,", len(rest), "behind:", len(body), len(left), e)
			}
		}
	}
}

// amiss are bytes that begin with no frame, and why. Where several errors apply it is the first one of them: too few
// bytes for a head, too great a number, too few bytes for that number, another checksum.
func amiss() []struct {
	name string
	b    []byte
	e    api.Errno
} {
	greater := framed(some(4097))
	greatest := framed(some(1<<16 - 1))
	whole := framed(some(20))
	largest := framed(some(4096))
	other := slices.Clone(whole)
	other[3]++
	return []struct {
		name string
		b    []byte
		e    api.Errno
	}{
		{"one byte", []byte{0}, api.ErrEnd},
		{"five bytes of a frame of none", framed(nil)[:5], api.ErrEnd},
		{"five bytes, whose number is too great", greater[:5], api.ErrEnd},
		{"two bytes, whose number is too great", []byte{255, 255}, api.ErrEnd},
		{"the number is one too great", greater, api.ErrForm},
		{"the number is one too great, and bytes are missing", greater[:6], api.ErrForm},
		{"the greatest number", greatest, api.ErrForm},
		{"the greatest number, and bytes are missing", greatest[:100], api.ErrForm},
		{"too great a number, and another checksum", []byte{1, 16, 0, 0, 0, 0}, api.ErrForm},
		{"a head alone", whole[:6], api.ErrEnd},
		{"the last byte is missing", whole[:25], api.ErrEnd},
		{"bytes are missing, and another checksum", other[:25], api.ErrEnd},
		{"the last byte of the largest one is missing", largest[:4101], api.ErrEnd},
		{"another checksum", other, api.ErrSum},
		{"another checksum, bytes behind", slices.Concat(other, whole), api.ErrSum},
		{"another checksum of no bytes", []byte{0, 0, 0, 0, 0, 0}, api.ErrSum},
		{"a checksum of the bytes without their number", []byte{9, 0, 0x26, 0x39, 0xf4, 0xcb, '1', '2', '3', '4', '5', '6', '7', '8', '9'}, api.ErrSum},
	}
}

func TestP21NextErrors(t *testing.T) {
	if body, rest, e := frame.Next(nil); e != api.ErrEnd || len(body) != 0 || len(rest) != 0 {
		t.Error("Next of nothing:", body, rest, e)
	}
	for _, c := range amiss() {
		if body, rest, e := frame.Next(c.b); e != c.e || len(body) != 0 || len(rest) != 0 {
			t.Error(c.name, ":", len(body), len(rest), e)
		}
	}
}

// wantAll checks what All finds.
func wantAll(t *testing.T, name string, b []byte, want [][]byte, used int, e api.Errno) {
	t.Helper()
	l, n, got := frame.All(b)
	if got != e || n != used || !slices.EqualFunc(l, want, bytes.Equal) {
		t.Error(name, ":", len(l), "frames of", n, "bytes,", got, "; want", len(want), used, e)
	}
}

func TestP21All(t *testing.T) {
	wantAll(t, "nil", nil, nil, 0, api.OK)
	wantAll(t, "no bytes", []byte{}, nil, 0, api.OK)
	var b []byte
	var bodies [][]byte
	for _, n := range sizes {
		b = append(b, framed(some(n))...)
		bodies = append(bodies, some(n))
		wantAll(t, "frames", b, bodies, len(b), api.OK)
	}
	for _, c := range amiss() {
		wantAll(t, c.name, c.b, nil, 0, c.e)
		wantAll(t, c.name+", behind frames", slices.Concat(b, c.b), bodies, len(b), c.e)
	}
}

// All ends soon however many frames there are.
func TestP21AllOfMany(t *testing.T) {
	const many = 1 << 18
	b := bytes.Repeat(framed(nil), many)
	if l, used, e := frame.All(b); len(l) != many || used != len(b) || e != api.OK {
		t.Error(len(l), used, e)
	}
}

// What is returned is new memory: neither arguments nor other results change when it does, nor it when they do.
func TestP21NewMemory(t *testing.T) {
	whole := slices.Concat(framed(some(9)), framed(some(5)), framed(some(4)))
	b := slices.Clone(whole)
	body, rest, _ := frame.Next(b)
	l, _, _ := frame.All(b)
	own, _ := frame.Seal(b[:7])
	again, _ := frame.Seal(b[:7])
	clear(body[:cap(body)])
	clear(own[:cap(own)])
	clear(l[0][:cap(l[0])])
	if !bytes.Equal(b, whole) {
		t.Error("an argument changed")
	}
	clear(b)
	if !bytes.Equal(rest, whole[15:]) || !bytes.Equal(again, framed(whole[:7])) {
		t.Error("Next or Seal shares memory")
	}
	clear(l[1][:cap(l[1])])
	if !bytes.Equal(l[2], some(4)) {
		t.Error("All shares memory")
	}
}
