package coil_test

import (
	"bytes"
	"math"
	"slices"
	"strings"
	"testing"

	"daisychain/coil"
)

// full is n bytes of 255: digits that all say that another one follows.
func full(n int) []byte { return bytes.Repeat([]byte{255}, n) }

// join puts pieces one behind the other.
func join(l ...[]byte) []byte { return slices.Concat(l...) }

// fronts are what an encoding is put behind: nothing, in both forms, and bytes, also with room behind them.
func fronts() [][]byte {
	return [][]byte{nil, {}, {9}, {128, 0, 255}, append(make([]byte, 0, 100), 7, 8)}
}

func TestP11Num(t *testing.T) {
	for _, c := range []struct {
		n    int
		want []byte
	}{
		{0, []byte{0}},
		{1, []byte{1}},
		{127, []byte{127}},
		{128, []byte{128, 1}},
		{129, []byte{129, 1}},
		{255, []byte{255, 1}},
		{256, []byte{128, 2}},
		{300, []byte{172, 2}},
		{1<<14 - 1, []byte{255, 127}},
		{1 << 14, []byte{128, 128, 1}},
		{1<<56 - 1, append(full(7), 127)},
		{1 << 56, []byte{128, 128, 128, 128, 128, 128, 128, 128, 1}},
		{math.MaxInt - 1, join([]byte{254}, full(7), []byte{127})},
		{math.MaxInt, append(full(8), 127)},
		{-1, []byte{0}},
		{-300, []byte{0}},
		{math.MinInt, []byte{0}},
	} {
		for _, b := range fronts() {
			if got := coil.Num(b, c.n); !bytes.Equal(got, join(b, c.want)) {
				t.Errorf("Num(%v, %d) = %v", b, c.n, got)
			}
		}
	}
}

func TestP11Text(t *testing.T) {
	for _, c := range []struct {
		s    string
		want []byte
	}{
		{"", []byte{0}},
		{"abc", []byte{3, 97, 98, 99}},
		{"\x00\xff\x80", []byte{3, 0, 255, 128}},
		{"é", []byte{2, 0xc3, 0xa9}},
		{strings.Repeat("x", 127), join([]byte{127}, bytes.Repeat([]byte("x"), 127))},
		{strings.Repeat("x", 128), join([]byte{128, 1}, bytes.Repeat([]byte("x"), 128))},
		{strings.Repeat("y", 300), join([]byte{172, 2}, bytes.Repeat([]byte("y"), 300))},
	} {
		for _, b := range fronts() {
			if got := coil.Text(b, c.s); !bytes.Equal(got, join(b, c.want)) {
				t.Errorf("Text(%v, %q) = %v", b, c.s, got)
			}
		}
	}
}

func TestP11Nums(t *testing.T) {
	for _, c := range []struct {
		l    []int
		want []byte
	}{
		{nil, []byte{0}},
		{[]int{}, []byte{0}},
		{[]int{0}, []byte{1, 0}},
		{[]int{1, 300, 127}, []byte{3, 1, 172, 2, 127}},
		{[]int{-1, 5, math.MinInt}, []byte{3, 0, 5, 0}},
		{[]int{math.MaxInt}, join([]byte{1}, full(8), []byte{127})},
		{make([]int, 130), join([]byte{130, 1}, make([]byte, 130))},
	} {
		for _, b := range fronts() {
			if got := coil.Nums(b, c.l); !bytes.Equal(got, join(b, c.want)) {
				t.Errorf("Nums(%v, %v) = %v", b, c.l, got)
			}
		}
	}
}

// What is encoded is new memory: neither the bytes that it is put behind nor the room behind them are written, and nothing is shared.
func TestP11NewMemory(t *testing.T) {
	for name, put := range map[string]func(b []byte) []byte{
		"Num":  func(b []byte) []byte { return coil.Num(b, 300) },
		"Text": func(b []byte) []byte { return coil.Text(b, "abc") },
		"Nums": func(b []byte) []byte { return coil.Nums(b, []int{1, 2}) },
	} {
		whole := bytes.Repeat([]byte{7}, 50)
		b := whole[:2]
		one, two := put(b), put(b)
		if !bytes.Equal(whole, bytes.Repeat([]byte{7}, 50)) {
			t.Error(name, "wrote into its argument:", whole)
		}
		kept := slices.Clone(two)
		clear(one[:cap(one)])
		if !bytes.Equal(two, kept) || whole[0] != 7 || whole[2] != 7 {
			t.Error(name, "shares its result")
		}
		clear(whole)
		if !bytes.Equal(two, kept) {
			t.Error(name, "shares its argument")
		}
	}
	l := []int{-1, 300}
	coil.Nums(nil, l)
	if !slices.Equal(l, []int{-1, 300}) {
		t.Error("Nums changed its list:", l)
	}
}
