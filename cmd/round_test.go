package cmd_test

import (
	"bytes"
	"math/rand"
	"strconv"
	"testing"

	"daisychain/cmd"
	"daisychain/queue"
	"daisychain/shop"
)

// checkBytes checks that bytes from which a command, or an answer, is read are its encoding.
func checkBytes(t *testing.T, b []byte) {
	t.Helper()
	c, err := cmd.Read(b)
	switch w, werr := cmd.Write(c); {
	case err == nil && (werr != nil || !bytes.Equal(w, b) || !bytes.Equal(plainOf(c), b) || !cmd.Right(c)):
		t.Fatalf("%v is read as the command %v, which is encoded as %v", b, c, w)
	case err != nil && !sameCmd(c, shop.Cmd{}):
		t.Fatalf("%v: %v beside %v", b, c, err)
	}
	a, err := cmd.ReadAnswer(b)
	switch w, werr := cmd.WriteAnswer(a); {
	case err == nil && (werr != nil || !bytes.Equal(w, b) || !bytes.Equal(plainOfAnswer(a), b) || !cmd.RightAnswer(a)):
		t.Fatalf("%v is read as the answer %v, which is encoded as %v", b, a, w)
	case err != nil && !shop.Same(a, shop.Answer{}):
		t.Fatalf("%v: %v beside %v", b, a, err)
	}
}

func TestP102Back(t *testing.T) {
	r := rand.New(rand.NewSource(1))
	for range 3000 {
		checkRight(t, "some command", anyCmd(r), true)
		checkRightAnswer(t, "some answer", anyAnswer(r), true)
	}
}

// Different bytes are read as different commands, or as none.
func TestP102NoOtherBytes(t *testing.T) {
	r := rand.New(rand.NewSource(2))
	try := func(b []byte) { checkBytes(t, b) }
	changes(plainOf(shop.Cmd{}), try)
	changes(plainOf(fullCmd()), try)
	changes(plainOfAnswer(shop.Answer{}), try)
	changes(plainOfAnswer(fullAnswer()), try)
	for range 20 {
		changes(plainOf(anyCmd(r)), try)
		changes(plainOfAnswer(anyAnswer(r)), try)
	}
	for range 20000 {
		b := make([]byte, r.Intn(40))
		for i := range b {
			b[i] = []byte{0, 0, 0, 1, 1, 2, 10, 11, 128, byte(r.Intn(256))}[r.Intn(10)]
		}
		checkBytes(t, b)
	}
}

// Commands that differ in one field only have different encodings.
func TestP102EachField(t *testing.T) {
	seen := map[string]string{}
	put := func(name string, c shop.Cmd) {
		b, err := cmd.Write(c)
		if other, is := seen[string(b)]; is || err != nil {
			t.Error(name, "is encoded as", other, err)
		}
		seen[string(b)] = name
	}
	put("all", fullCmd())
	for name := range numbersOf(&shop.Cmd{}) {
		c := fullCmd()
		*numbersOf(&c)[name] = 77
		put(name, c)
	}
	c := fullCmd()
	for name := range textsOf(&c) {
		c := fullCmd()
		*textsOf(&c)[name] = "other"
		put(name, c)
	}
	c.A.Fifo = false
	put("Fifo", c)
	c.Bodies = c.Bodies[:1]
	put("Bodies", c)
}

// twin are two shops: one executes commands, the other one what is read from their encodings.
type twin struct {
	t        *testing.T
	one, two *shop.Shop
}

// apply has both execute a command; their answers are the same, and can be written and read.
func (w twin) apply(c shop.Cmd) shop.Answer {
	w.t.Helper()
	b, err := cmd.Write(c)
	if err != nil {
		w.t.Fatal(c, err)
	}
	got, err := cmd.Read(b)
	if err != nil {
		w.t.Fatal(c, err)
	}
	a, other := w.one.Apply(c), w.two.Apply(got)
	if b, err = cmd.WriteAnswer(other); err != nil {
		w.t.Fatal(other, err)
	}
	if back, err := cmd.ReadAnswer(b); err != nil || !shop.Same(back, a) {
		w.t.Fatal(c, "has the answer", back, "and not", a, err)
	}
	return a
}

// What a shop does goes through the bytes as it is: each answer of a shop is valid, the greatest ones, too.
func TestP102Shop(t *testing.T) {
	w := twin{t, shop.New(), shop.New()}
	a := queue.Attr{Visible: 5, Retain: 100, Window: 3, Max: 1, Dead: "d"}
	w.apply(shop.Cmd{Client: 1, Req: 1, Kind: shop.Create, Queue: "q", A: a})
	w.apply(shop.Cmd{Client: 1, Req: 2, Kind: shop.Create, Queue: "d", A: queue.Attr{Visible: 5, Retain: 100, Fifo: true}})
	bodies := many(10, long(256))
	w.apply(shop.Cmd{Client: 1, Req: 3, Kind: shop.Batch, Queue: "q", Bodies: bodies, N: -1})
	w.apply(shop.Cmd{Client: 1, Req: 3, Kind: shop.Purge, Queue: "q"})
	for i := range 10 {
		w.apply(shop.Cmd{Kind: shop.Send, Queue: "d", Body: long(256), Group: long(255) + strconv.Itoa(i), N: -1})
	}
	for _, name := range []string{"q", "d"} {
		if x := w.apply(shop.Cmd{Kind: shop.Receive, Queue: name, N: 10}); len(x.Took) != 10 {
			t.Error("received from", name, len(x.Took))
		}
	}
	w.apply(shop.Cmd{Kind: shop.Extend, Queue: "d", Receipt: "1.1", N: 9})
	w.apply(shop.Cmd{Kind: shop.Ack, Queue: "d", Receipt: "2.1"})
	if x := w.apply(shop.Cmd{Kind: shop.Tick, N: 5}); x.Code != 0 || x.Ids[0] != 10 {
		t.Error("Tick:", x)
	}
	w.apply(shop.Cmd{Kind: shop.Set, Queue: "q", A: queue.Attr{Visible: 1, Retain: 1}})
	w.apply(shop.Cmd{Kind: shop.Delete, Queue: "d"})
	w.apply(shop.Cmd{Kind: 10, Queue: "d"})
}

func FuzzP102NoOtherBytes(f *testing.F) {
	f.Add(plainOf(fullCmd()))
	f.Add(plainOfAnswer(fullAnswer()))
	f.Add(make([]byte, 18))
	f.Fuzz(checkBytes)
}
