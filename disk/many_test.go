package disk_test

import (
	"runtime"
	"strconv"
	"strings"
	"testing"

	"daisychain/disk"
)

// All calls end soon, however many files there are, and however large one is.
func TestP31Many(t *testing.T) {
	const many = 1 << 16
	d := disk.New(1 << 20)
	for i := range many {
		ok(t, d.Append(strings.Repeat("n", 1+i%8)+string(rune('a'+i%16))+string(rune(0x4e00+i/16)), []byte{1, 2}))
	}
	if len(d.Names()) != many || d.Used() != 2*many {
		t.Fatal(len(d.Names()), "files,", d.Used(), "bytes")
	}
	d.Crash([]int{1, 2})
	if d.Used() != 3 {
		t.Error(d.Used(), "bytes survive")
	}
	for range 1<<20 - 3 {
		ok(t, d.Append("large", []byte{9}))
	}
	for range 1 << 15 {
		ok(t, d.Cut("large", 1<<20-4))
		ok(t, d.Append("large", []byte{8}))
	}
	if d.Used() != 1<<20 || d.Loose("large") != 1 {
		t.Error(d.Used(), "bytes,", d.Loose("large"), "not synced")
	}
}

// What files had once is not held: a disk needs no more memory than what it has room for, but for a factor.
func TestP31Memory(t *testing.T) {
	d := disk.New(1 << 20)
	before := held()
	for i := range 100 {
		name := strconv.Itoa(i)
		ok(t, d.Append(name, make([]byte, 1<<20-i)))
		if i%2 == 0 {
			ok(t, d.Cut(name, 1))
		} else {
			d.Crash(nil)
		}
	}
	if more := held() - before; more > 8<<20 {
		t.Error(d.Used(), "bytes take", more)
	}
}

// held is how many bytes of memory are in use.
func held() int {
	runtime.GC()
	var m runtime.MemStats
	runtime.ReadMemStats(&m)
	return int(m.HeapAlloc)
}

// A name that is a piece of a long text does not hold that text.
func TestP31NamesMemory(t *testing.T) {
	d := disk.New(0)
	before := held()
	for i := range 100 {
		text := strings.Repeat(strconv.Itoa(100+i), 1<<18)
		ok(t, d.Append(text[:3], nil))
		if i%2 == 0 {
			ok(t, d.Rename(text[:3], text[:6]))
		}
	}
	if more := held() - before; more > 8<<20 {
		t.Error(len(d.Names()), "names take", more)
	}
}
