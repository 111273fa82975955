package frame_test

import (
	"hash/crc32"
	"testing"

	"daisychain/frame"
)

func TestP21Sum(t *testing.T) {
	for _, c := range []struct {
		s    string
		want uint32
	}{
		{"123456789", 0xcbf43926},
		{"", 0},
		{"\x00", 0xd202ef8d},
		{"\xff\xff\xff\xff", 0xffffffff},
		{"a", 0xe8b7be43},
	} {
		if got := frame.Sum([]byte(c.s)); got != c.want {
			t.Errorf("Sum(%q) = %x", c.s, got)
		}
	}
	if frame.Sum(nil) != 0 {
		t.Error("Sum of nil:", frame.Sum(nil))
	}
}

// The library's checksum of that polynomial is the same one, for each pair of bytes and for more of them.
func TestP21SumOfMore(t *testing.T) {
	for i := range 1 << 16 {
		b := []byte{byte(i), byte(i >> 8)}
		if got := frame.Sum(b); got != crc32.ChecksumIEEE(b) {
			t.Fatalf("Sum(%v) = %x", b, got)
		}
	}
	for n := range 300 {
		if got := frame.Sum(some(n)); got != crc32.ChecksumIEEE(some(n)) {
			t.Fatalf("Sum of %d bytes is %x", n, got)
		}
	}
	if got := frame.Sum(some(1 << 20)); got != crc32.ChecksumIEEE(some(1<<20)) {
		t.Errorf("Sum of 2^20 bytes is %x", got)
	}
}
