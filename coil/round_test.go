package coil_test

import (
	"bytes"
	"slices"
	"testing"

	"daisychain/coil"
)

func TestP13InOrder(t *testing.T) {
	numbers := []int{0, 1, 127, 128, 300, 1<<14 - 1, 1 << 14, 1<<35 + 7, 1 << 56, 1<<63 - 1}
	for i := range 63 {
		numbers = append(numbers, 1<<i, 1<<i-1)
	}
	texts := []string{"", "a", "abc", "\x00\x80\xff", string(make([]byte, 127)), string(full(200))}
	var b []byte
	for _, n := range numbers {
		b = coil.Num(b, n)
		for _, s := range texts {
			b = coil.Text(b, s)
		}
		b = coil.Nums(b, numbers[:n%9])
	}
	r := coil.Of(b)
	for _, n := range numbers {
		if got := r.Num(); got != n {
			t.Fatal("number", n, "is", got)
		}
		for _, s := range texts {
			if got := r.Text(len(s)); got != s {
				t.Fatalf("text %q is %q", s, got)
			}
		}
		if got := r.Nums(n % 9); !slices.Equal(got, numbers[:n%9]) {
			t.Fatal("list", numbers[:n%9], "is", got)
		}
	}
	if err := r.Done(); err != nil {
		t.Error(err)
	}
}

// A negative number is written as 0, and is read as 0.
func TestP13Negative(t *testing.T) {
	r := coil.Of(coil.Nums(coil.Num(nil, -7), []int{-1, 4}))
	if n, l := r.Num(), r.Nums(2); n != 0 || !slices.Equal(l, []int{0, 4}) || r.Done() != nil {
		t.Error(n, l, r.Done())
	}
}

// checkOnly checks that bytes which can be read, up to their end, are those that encode what was read.
func checkOnly(t *testing.T, b []byte) {
	t.Helper()
	for way, put := range []func(v value) []byte{
		num:  func(v value) []byte { return coil.Num(nil, v.n) },
		text: func(v value) []byte { return coil.Text(nil, v.s) },
		nums: func(v value) []byte { return coil.Nums(nil, v.l) },
	} {
		r := coil.Of(b)
		v := take(r, way, 300)
		if r.Done() == nil && !bytes.Equal(put(v), b) {
			t.Fatalf("%v is read as %v, which is encoded as %v", b, v, put(v))
		}
		if r.Err() != nil && (r.At() != 0 || !v.equal(value{})) {
			t.Fatalf("%v: failed at %d with %v", b, r.At(), v)
		}
		if r.At()+r.Left() != len(b) {
			t.Fatalf("%v: At %d, Left %d", b, r.At(), r.Left())
		}
	}
}

func TestP13NoOtherBytes(t *testing.T) {
	for i := range 1 << 16 {
		checkOnly(t, []byte{byte(i), byte(i >> 8)})
	}
	few := []byte{0, 1, 2, 3, 127, 128, 130, 255}
	var all func(b []byte)
	all = func(b []byte) {
		checkOnly(t, b)
		if len(b) < 6 {
			for _, c := range few {
				all(append(slices.Clone(b), c))
			}
		}
	}
	all(nil)
	for n := 6; n <= 11; n++ {
		for _, last := range few {
			checkOnly(t, append(full(n), last))
			checkOnly(t, append(bytes.Repeat([]byte{128}, n), last))
			checkOnly(t, join([]byte{1}, full(n), []byte{last}))
		}
	}
}

func FuzzP13NoOtherBytes(f *testing.F) {
	f.Add([]byte{3, 97, 98, 99})
	f.Add([]byte{2, 172, 2, 0})
	f.Add(full(10))
	f.Fuzz(checkOnly)
}
