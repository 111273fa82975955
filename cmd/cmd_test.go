package cmd_test

import (
	"bytes"
	"math"
	"strconv"
	"testing"

	"daisychain/api"
	"daisychain/cmd"
	"daisychain/queue"
	"daisychain/shop"
)

// Example 1 of the chapter.
func TestP101Example(t *testing.T) {
	b, err := cmd.Write(shop.Cmd{Kind: shop.Tick, N: 5})
	if want := append([]byte{0, 0, 0, 6, 0}, make([]byte, 13)...); err != nil || !bytes.Equal(b, want) {
		t.Error("a Tick of 5:", b, err)
	}
}

func TestP101Write(t *testing.T) {
	for i, c := range []struct {
		c    shop.Cmd
		want []byte
	}{
		{shop.Cmd{N: -1}, make([]byte, 18)},
		{shop.Cmd{}, []byte{0, 0, 0, 1, 0, 0, 0, 0, 0, 0, 0, 0, 0, 0, 0, 0, 0, 0}},
		{fullCmd(), []byte{
			1, 2, 3, 5, 172, 2, 6, 7, 8, 9, 10, 1,
			1, 'q', 2, 'd', 'e', 3, 'b', 'o', 'd', 4, 'g', 'r', 'o', 'u', 5, 'k', 'e', 'y', 'e', 'd',
			6, '2', '.', '1', '2', '3', '4', 2, 0, 2, 'y', 'y'}},
	} {
		if b, err := cmd.Write(c.c); err != nil || !bytes.Equal(b, c.want) {
			t.Error("Write", i, b, err)
		}
		if got, err := cmd.Read(c.want); err != nil || !sameCmd(got, c.c) {
			t.Error("Read", i, got, err)
		}
	}
}

// numbersOf are the numbers of a command.
func numbersOf(c *shop.Cmd) map[string]*int {
	return map[string]*int{
		"Client": &c.Client, "Req": &c.Req, "Kind": &c.Kind, "N": &c.N, "M": &c.M, "Visible": &c.A.Visible,
		"Retain": &c.A.Retain, "Delay": &c.A.Delay, "Window": &c.A.Window, "Max": &c.A.Max,
	}
}

// textsOf are the texts of a command; it must have two Bodies.
func textsOf(c *shop.Cmd) map[string]*string {
	return map[string]*string{
		"Queue": &c.Queue, "Dead": &c.A.Dead, "Body": &c.Body, "Group": &c.Group, "Key": &c.Key, "Receipt": &c.Receipt,
		"first of Bodies": &c.Bodies[0], "last of Bodies": &c.Bodies[1],
	}
}

// checkRight checks what Right and Write tell of a command, and that it is read if it is valid.
func checkRight(t *testing.T, what string, c shop.Cmd, want bool) {
	t.Helper()
	if cmd.Right(c) != want {
		t.Errorf("Right of %s is not %v", what, want)
	}
	b, err := cmd.Write(c)
	if !want {
		wantError(t, "Write of "+what, len(b) == 0, err, api.ErrArg)
		return
	}
	if err != nil || !bytes.Equal(b, plainOf(c)) {
		t.Errorf("Write of %s: %v %v", what, b, err)
	}
	if got, err := cmd.Read(b); err != nil || !sameCmd(got, c) {
		t.Errorf("Read of %s: %v %v", what, got, err)
	}
}

func TestP101RightNumbers(t *testing.T) {
	for _, front := range []shop.Cmd{{}, fullCmd()} {
		for name := range numbersOf(&shop.Cmd{}) {
			for _, n := range []int{math.MinInt, -limit, -2, -1, 0, 1, limit - 1, limit, limit + 1, math.MaxInt - 1, math.MaxInt} {
				c := front
				*numbersOf(&c)[name] = n
				want := n >= 0 && n <= limit
				if name == "N" {
					want = n >= -1 && n <= limit-1
				}
				checkRight(t, name+" "+strconv.Itoa(n), c, want)
			}
		}
	}
}

func TestP101RightTexts(t *testing.T) {
	c := fullCmd()
	for name := range textsOf(&c) {
		for _, n := range []int{0, 1, 255, 256, 257, 5000} {
			c := fullCmd()
			*textsOf(&c)[name] = long(n)
			checkRight(t, name+" of "+strconv.Itoa(n)+" bytes", c, n <= 256)
		}
	}
}

func TestP101RightBodies(t *testing.T) {
	for _, n := range []int{0, 1, 9, 10, 11, 1000} {
		for _, s := range []string{"", "y", long(256)} {
			c := fullCmd()
			c.Bodies = many(n, s)
			checkRight(t, strconv.Itoa(n)+" Bodies", c, n <= 10)
		}
	}
	c := fullCmd()
	c.Bodies = append(many(9, "y"), long(257))
	checkRight(t, "a long last one of 10 Bodies", c, false)
	checkRight(t, "Bodies that are there, but empty", shop.Cmd{Bodies: []string{}}, true)
}

// What is valid here is not what a shop does without an error.
func TestP101RightAnyKind(t *testing.T) {
	checkRight(t, "a Kind that there is not", shop.Cmd{Kind: 99, Queue: "no", A: queue.Attr{Max: 1 << 40, Dead: long(256)}, N: 1 << 50}, true)
	checkRight(t, "a command with a client that is too great", shop.Cmd{Client: 1000}, true)
}

// checkRead checks that no command is read, and why; at is the byte of a reader's error, or -1 if it has none.
func checkRead(t *testing.T, what string, b []byte, at int, e api.Errno) {
	t.Helper()
	c, err := cmd.Read(b)
	if zero := sameCmd(c, shop.Cmd{}); at < 0 {
		wantError(t, what, zero, err, e)
	} else {
		wantFault(t, what, zero, err, at, e)
	}
}

// Each command that ends early, and each that goes on, is the reader's error.
func TestP101ReadEnds(t *testing.T) {
	b := plainOf(fullCmd())
	for n := range b {
		c, err := cmd.Read(b[:n])
		wantError(t, "the first "+strconv.Itoa(n)+" bytes", sameCmd(c, shop.Cmd{}), err, api.ErrEnd)
	}
	checkRead(t, "nothing", nil, 0, api.ErrEnd)
	checkRead(t, "no bytes", []byte{}, 0, api.ErrEnd)
	checkRead(t, "a number that ends early", b[:5], 4, api.ErrEnd)
	checkRead(t, "a text that ends early", b[:16], 14, api.ErrEnd)
	checkRead(t, "no last body", b[:len(b)-3], len(b)-3, api.ErrEnd)
	checkRead(t, "a byte more", append(bytes.Clone(b), 0), len(b), api.ErrForm)
	checkRead(t, "two of them", join(b, b), len(b), api.ErrForm)
}

func TestP101ReadForm(t *testing.T) {
	b := make([]byte, 18)
	for at := range 11 {
		tail := b[at+1:]
		checkRead(t, "a number in too many bytes", join(b[:at], []byte{128, 0}, tail), at, api.ErrForm)
		checkRead(t, "nine bytes of 255", join(b[:at], many(9, byte(255)), tail), at, api.ErrForm)
	}
	for at := 11; at < 17; at++ {
		checkRead(t, "a text of 257 bytes", join(b[:at], text(long(257)), b[at+1:]), at, api.ErrForm)
		checkRead(t, "a text of 257 bytes that are not there", join(b[:at], num(257)), at, api.ErrForm)
		checkRead(t, "a text of 256 bytes that are not there", join(b[:at], num(256)), at, api.ErrEnd)
	}
	checkRead(t, "a body of 257 bytes", join(b[:17], num(1), text(long(257))), 18, api.ErrForm)
	checkRead(t, "a number of Bodies in too many bytes", join(b[:17], []byte{129, 0, 0}), 17, api.ErrForm)
}

// Numbers above the limit are numbers to a reader, but no valid command has them.
func TestP101ReadGreat(t *testing.T) {
	for name := range numbersOf(&shop.Cmd{}) {
		for _, n := range []int{limit, limit + 1, math.MaxInt - 1, math.MaxInt} {
			c := fullCmd()
			if *numbersOf(&c)[name] = n; name == "N" {
				c.N--
			}
			b := plainOf(c)
			if n == limit {
				if got, err := cmd.Read(b); err != nil || !sameCmd(got, c) {
					t.Error(name, "at the limit:", got, err)
				}
				continue
			}
			checkRead(t, name+" of "+strconv.Itoa(n), b, -1, api.ErrForm)
			checkRead(t, name+" of "+strconv.Itoa(n)+", without the end", b[:len(b)-1], len(b)-3, api.ErrEnd)
			checkRead(t, name+" of "+strconv.Itoa(n)+", and a byte", append(b, 7), len(b), api.ErrForm)
		}
	}
}

// Fifo is 0 or 1.
func TestP101ReadFifo(t *testing.T) {
	for _, fifo := range []int{2, 3, 127, 128, 256, 257, limit, math.MaxInt} {
		b := plain(fullCmd(), fifo, 2)
		checkRead(t, "Fifo "+strconv.Itoa(fifo), b, -1, api.ErrForm)
		checkRead(t, "Fifo "+strconv.Itoa(fifo)+", without the end", b[:len(b)-1], len(b)-3, api.ErrEnd)
		checkRead(t, "Fifo "+strconv.Itoa(fifo)+", and a byte", append(b, 7), len(b), api.ErrForm)
	}
}

// Of more than 10 Bodies only 10 are read.
func TestP101ReadBodies(t *testing.T) {
	for _, count := range []int{11, 12, 127, 128, 1 << 40, limit, math.MaxInt} {
		for there := range 13 {
			c := fullCmd()
			c.Bodies = many(there, "yy")
			b := plain(c, 1, count)
			what := strconv.Itoa(count) + " Bodies, of which there are " + strconv.Itoa(there)
			switch {
			case there < 10:
				checkRead(t, what, b, len(b), api.ErrEnd)
			case there == 10:
				checkRead(t, what, b, -1, api.ErrForm)
			default:
				checkRead(t, what, b, len(b)-3*(there-10), api.ErrForm)
			}
		}
	}
	c := fullCmd()
	c.Bodies = many(10, "yy")
	if got, err := cmd.Read(plainOf(c)); err != nil || !sameCmd(got, c) {
		t.Error("10 Bodies:", got, err)
	}
	b := plain(c, 1, 9)
	checkRead(t, "9 Bodies, of which there are 10", b, len(b)-3, api.ErrForm)
}

// Neither what is written nor what is read shares memory with anything.
func TestP101NewMemory(t *testing.T) {
	c := fullCmd()
	c.Bodies = append(make([]string, 0, 8), "", "yy")
	b, _ := cmd.Write(c)
	again, _ := cmd.Write(c)
	clear(b[:cap(b)])
	if !bytes.Equal(again, plainOf(fullCmd())) || !sameCmd(c, fullCmd()) {
		t.Error("what is written is shared:", again, c)
	}
	b = append(again, 1, 2, 3)[:len(again)]
	got, _ := cmd.Read(b)
	if !bytes.Equal(b[:len(b)+3], append(plainOf(fullCmd()), 1, 2, 3)) {
		t.Error("Read changed its argument:", b)
	}
	other, _ := cmd.Read(b)
	clear(b)
	clear(other.Bodies[:cap(other.Bodies)])
	if !sameCmd(got, fullCmd()) {
		t.Error("what is read is shared:", got)
	}
}
