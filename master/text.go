package master

import (
	"slices"
	"strconv"
	"strings"

	"daisychain/api"
)

// How many numbers stand ahead of the members.
const (
	aheadInLine  = 3
	aheadInOrder = 4
)

// Text writes a table.
func (t *Table) Text() string {
	var b strings.Builder
	for _, shard := range t.Shards() {
		b.WriteString(line(shard, t.configs[shard]))
	}
	return b.String()
}

// Read reads a table. What it read is written again, so that nothing else is read as the text of it.
func Read(s string) (*Table, api.Errno) {
	t := New()
	for rest := s; rest != ""; {
		var text string
		text, rest, _ = strings.Cut(rest, "\n")
		shard, c, is := readLine(text)
		if !is {
			return nil, api.ErrForm
		}
		t.configs[shard] = c
	}
	if t.Text() != s {
		return nil, api.ErrForm
	}
	return t, api.OK
}

// Write writes an order.
func Write(o Order) string { return spaced([]int{o.Kind, o.Shard, o.Epoch, o.Node}, o.Members) }

// ReadOrder reads an order. As a table is, it is written again.
func ReadOrder(s string) (Order, api.Errno) {
	l, is := numbers(s)
	if !is || len(l) < aheadInOrder {
		return Order{}, api.ErrForm
	}
	o := Order{l[0], l[1], l[2], l[3], l[aheadInOrder:]}
	if Write(o) != s {
		return Order{}, api.ErrForm
	}
	return o, api.OK
}

// line is a shard with its configuration.
func line(shard int, c Config) string {
	joining := 0
	if c.Joining {
		joining = 1
	}
	return spaced([]int{shard, c.Epoch, joining}, c.Members) + "\n"
}

// readLine is the shard of a line, without its end, and the configuration. A flag that is none comes out as another one.
func readLine(s string) (int, Config, bool) {
	l, is := numbers(s)
	if !is || len(l) < aheadInLine || l[0] < 0 || l[0] > lastShard {
		return 0, Config{}, false
	}
	c := Config{l[1], slices.Clone(l[aheadInLine:]), l[2] == 1}
	return l[0], c, c.right()
}

// spaced is numbers, and more of them, separated by spaces.
func spaced(ahead, members []int) string {
	var b []byte
	for _, n := range ahead {
		b = append(strconv.AppendInt(b, int64(n), 10), ' ')
	}
	for _, n := range members {
		b = append(strconv.AppendInt(b, int64(n), 10), ' ')
	}
	return string(b[:len(b)-1])
}

// numbers are those of a text, separated by spaces.
func numbers(s string) ([]int, bool) {
	var l []int
	for more := true; more; {
		var word string
		word, s, more = strings.Cut(s, " ")
		n, err := strconv.Atoi(word)
		if err != nil {
			return nil, false
		}
		l = append(l, n)
	}
	return l, true
}
