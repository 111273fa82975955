package cmd_test

import (
	"bytes"
	"math"
	"strconv"
	"testing"

	"daisychain/api"
	"daisychain/cmd"
	"daisychain/queue"
	"daisychain/shop"
)

func TestP101WriteAnswer(t *testing.T) {
	for i, c := range []struct {
		a    shop.Answer
		want []byte
	}{
		{shop.Answer{}, []byte{0, 0, 0}},
		{shop.Answer{Code: 300}, []byte{172, 2, 0, 0}},
		{shop.Answer{Ids: []int{0}}, []byte{0, 1, 0, 0}},
		{shop.Answer{Took: make([]queue.Took, 1)}, []byte{0, 0, 1, 0, 0, 0, 0, 0}},
		{fullAnswer(), []byte{
			5, 3, 6, 172, 2, 7, 2,
			8, 9, 3, '8', '.', '9', 4, 'b', 'o', 'd', 'y', 0,
			10, 1, 4, '1', '0', '.', '1', 0, 1, 'g'}},
	} {
		if b, err := cmd.WriteAnswer(c.a); err != nil || !bytes.Equal(b, c.want) {
			t.Error("WriteAnswer", i, b, err)
		}
		if got, err := cmd.ReadAnswer(c.want); err != nil || !shop.Same(got, c.a) {
			t.Error("ReadAnswer", i, got, err)
		}
	}
}

// checkRightAnswer checks what RightAnswer and WriteAnswer tell, and that the answer is read if it is valid.
func checkRightAnswer(t *testing.T, what string, a shop.Answer, want bool) {
	t.Helper()
	if cmd.RightAnswer(a) != want {
		t.Errorf("RightAnswer of %s is not %v", what, want)
	}
	b, err := cmd.WriteAnswer(a)
	if !want {
		wantError(t, "WriteAnswer of "+what, len(b) == 0, err, api.ErrArg)
		return
	}
	if err != nil || !bytes.Equal(b, plainOfAnswer(a)) {
		t.Errorf("WriteAnswer of %s: %v %v", what, b, err)
	}
	if got, err := cmd.ReadAnswer(b); err != nil || !shop.Same(got, a) {
		t.Errorf("ReadAnswer of %s: %v %v", what, got, err)
	}
}

// numbersOfAnswer are the numbers of fullAnswer.
func numbersOfAnswer(a *shop.Answer) map[string]*int {
	return map[string]*int{
		"Code": &a.Code, "first of Ids": &a.Ids[0], "last of Ids": &a.Ids[2], "first Id": &a.Took[0].Id,
		"first Count": &a.Took[0].Count, "last Id": &a.Took[1].Id, "last Count": &a.Took[1].Count,
	}
}

// textsOfAnswer are the texts of fullAnswer.
func textsOfAnswer(a *shop.Answer) map[string]*string {
	x, y := &a.Took[0], &a.Took[1]
	return map[string]*string{
		"first Receipt": &x.Receipt, "first Body": &x.Body, "first Group": &x.Group,
		"last Receipt": &y.Receipt, "last Body": &y.Body, "last Group": &y.Group,
	}
}

func TestP101RightAnswerNumbers(t *testing.T) {
	a := fullAnswer()
	for name := range numbersOfAnswer(&a) {
		for _, n := range []int{math.MinInt, -limit, -2, -1, 0, 1, limit - 1, limit, limit + 1, math.MaxInt} {
			a := fullAnswer()
			*numbersOfAnswer(&a)[name] = n
			checkRightAnswer(t, name+" "+strconv.Itoa(n), a, n >= 0 && n <= limit)
		}
	}
}

func TestP101RightAnswerTexts(t *testing.T) {
	a := fullAnswer()
	for name := range textsOfAnswer(&a) {
		for _, n := range []int{0, 1, 255, 256, 257, 5000} {
			a := fullAnswer()
			*textsOfAnswer(&a)[name] = long(n)
			checkRightAnswer(t, name+" of "+strconv.Itoa(n)+" bytes", a, n <= 256)
		}
	}
}

func TestP101RightAnswerLists(t *testing.T) {
	x := queue.Took{Id: limit, Count: limit, Receipt: long(256), Body: long(256), Group: long(256)}
	for _, n := range []int{0, 1, 9, 10, 11, 1000} {
		checkRightAnswer(t, strconv.Itoa(n)+" Ids", shop.Answer{Ids: many(n, limit)}, n <= 10)
		checkRightAnswer(t, strconv.Itoa(n)+" messages", shop.Answer{Took: many(n, x)}, n <= 10)
		checkRightAnswer(t, strconv.Itoa(n)+" of both", shop.Answer{Ids: make([]int, n), Took: many(n, x)}, n <= 10)
	}
	checkRightAnswer(t, "a negative last one of 10 Ids", shop.Answer{Ids: append(make([]int, 9), -1)}, false)
	checkRightAnswer(t, "a long last one of 10 messages", shop.Answer{Took: append(many(9, x), queue.Took{Group: long(257)})}, false)
	checkRightAnswer(t, "lists that are there, but empty", shop.Answer{Ids: []int{}, Took: []queue.Took{}}, true)
	checkRightAnswer(t, "a Code that no error has", shop.Answer{Code: 1000}, true)
}

// checkReadAnswer checks that no answer is read, and why; at is the byte of a reader's error, or -1 if it has none.
func checkReadAnswer(t *testing.T, what string, b []byte, at int, e api.Errno) {
	t.Helper()
	a, err := cmd.ReadAnswer(b)
	if zero := shop.Same(a, shop.Answer{}); at < 0 {
		wantError(t, what, zero, err, e)
	} else {
		wantFault(t, what, zero, err, at, e)
	}
}

func TestP101ReadAnswerEnds(t *testing.T) {
	b := plainOfAnswer(fullAnswer())
	for n := range b {
		a, err := cmd.ReadAnswer(b[:n])
		wantError(t, "the first "+strconv.Itoa(n)+" bytes", shop.Same(a, shop.Answer{}), err, api.ErrEnd)
	}
	checkReadAnswer(t, "nothing", nil, 0, api.ErrEnd)
	checkReadAnswer(t, "no bytes", []byte{}, 0, api.ErrEnd)
	checkReadAnswer(t, "a list that ends early", b[:4], 1, api.ErrEnd)
	checkReadAnswer(t, "a text that ends early", b[:len(b)-1], len(b)-2, api.ErrEnd)
	checkReadAnswer(t, "a byte more", append(bytes.Clone(b), 0), len(b), api.ErrForm)
	checkReadAnswer(t, "two of them", join(b, b), len(b), api.ErrForm)
}

func TestP101ReadAnswerForm(t *testing.T) {
	b := make([]byte, 3)
	for at := range 3 {
		checkReadAnswer(t, "a number in too many bytes", join(b[:at], []byte{128, 0}, b[at+1:]), at, api.ErrForm)
		checkReadAnswer(t, "nine bytes of 255", join(b[:at], many(9, byte(255)), b[at+1:]), at, api.ErrForm)
	}
	x := []byte{0, 0, 1, 0, 0}
	for n := range 3 {
		front := join(x, make([]byte, n))
		checkReadAnswer(t, "a text of 257 bytes", join(front, text(long(257)), make([]byte, 2-n)), len(front), api.ErrForm)
		checkReadAnswer(t, "a text of 256 bytes that are not there", join(front, num(256)), len(front), api.ErrEnd)
	}
	checkReadAnswer(t, "11 Ids", join([]byte{0, 11}, make([]byte, 12)), 1, api.ErrForm)
	checkReadAnswer(t, "11 Ids that are not there", []byte{0, 11}, 1, api.ErrForm)
	checkReadAnswer(t, "10 Ids that are not there", []byte{0, 10}, 1, api.ErrEnd)
	checkReadAnswer(t, "an Id in too many bytes", []byte{0, 1, 128, 0, 0}, 1, api.ErrForm)
}

// Numbers above the limit are numbers to a reader, but no valid answer has them.
func TestP101ReadAnswerGreat(t *testing.T) {
	a := fullAnswer()
	for name := range numbersOfAnswer(&a) {
		for _, n := range []int{limit, limit + 1, math.MaxInt} {
			a := fullAnswer()
			*numbersOfAnswer(&a)[name] = n
			b := plainOfAnswer(a)
			if n == limit {
				if got, err := cmd.ReadAnswer(b); err != nil || !shop.Same(got, a) {
					t.Error(name, "at the limit:", got, err)
				}
				continue
			}
			checkReadAnswer(t, name+" of "+strconv.Itoa(n), b, -1, api.ErrForm)
			checkReadAnswer(t, name+" of "+strconv.Itoa(n)+", without the end", b[:len(b)-1], len(b)-2, api.ErrEnd)
			checkReadAnswer(t, name+" of "+strconv.Itoa(n)+", and a byte", append(b, 7), len(b), api.ErrForm)
		}
	}
}

// Of more than 10 messages only 10 are read.
func TestP101ReadAnswerMessages(t *testing.T) {
	x := queue.Took{Id: 1, Count: 1, Receipt: "1.1"}
	size := len(plainOfAnswer(shop.Answer{Took: many(1, x)})) - 3
	for _, count := range []int{11, 12, 127, 128, 1 << 40, limit, math.MaxInt} {
		for there := range 13 {
			b := plainAnswer(shop.Answer{Ids: []int{4}, Took: many(there, x)}, count)
			what := strconv.Itoa(count) + " messages, of which there are " + strconv.Itoa(there)
			switch {
			case there < 10:
				checkReadAnswer(t, what, b, len(b), api.ErrEnd)
			case there == 10:
				checkReadAnswer(t, what, b, -1, api.ErrForm)
			default:
				checkReadAnswer(t, what, b, len(b)-size*(there-10), api.ErrForm)
			}
		}
	}
	b := plainAnswer(shop.Answer{Took: many(10, x)}, 9)
	checkReadAnswer(t, "9 messages, of which there are 10", b, len(b)-size, api.ErrForm)
}

// Neither what is written nor what is read shares memory with anything.
func TestP101AnswerNewMemory(t *testing.T) {
	a := fullAnswer()
	b, _ := cmd.WriteAnswer(a)
	again, _ := cmd.WriteAnswer(a)
	clear(b[:cap(b)])
	if !bytes.Equal(again, plainOfAnswer(fullAnswer())) || !shop.Same(a, fullAnswer()) {
		t.Error("what is written is shared:", again, a)
	}
	got, _ := cmd.ReadAnswer(again)
	other, _ := cmd.ReadAnswer(again)
	clear(again)
	clear(other.Ids[:cap(other.Ids)])
	clear(other.Took[:cap(other.Took)])
	if !shop.Same(got, fullAnswer()) {
		t.Error("what is read is shared:", got)
	}
}
