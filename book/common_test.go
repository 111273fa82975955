package book_test

import (
	"errors"
	"maps"
	"math"
	"slices"
	"strconv"
	"strings"
	"testing"

	"daisychain/api"
	"daisychain/book"
	"daisychain/chain"
	"daisychain/coil"
	"daisychain/disk"
	"daisychain/frame"
	"daisychain/master"
	"daisychain/wal"
)

// most is the greatest number; mostCmd is how many bytes a command has at most.
const (
	most    = math.MaxInt
	mostCmd = 3000
)

// full is a configuration whose members are all full; joining is one whose last member is new.
func full(epoch int, members ...int) master.Config {
	return master.Config{Epoch: epoch, Members: members}
}

func joining(epoch int, members ...int) master.Config {
	return master.Config{Epoch: epoch, Members: members, Joining: true}
}

// keep is what a replica keeps.
func keep(c master.Config, row ...string) chain.Keep { return chain.Keep{Config: c, Row: row} }

// num is a number's bytes, as layer 1 says it; text is a text's.
func num(n int) string {
	if n < 128 {
		return string([]byte{byte(n)})
	}
	return string([]byte{byte(128 + n%128)}) + num(n/128)
}

func text(s string) string { return num(len(s)) + s }

// is is 1 or 0.
func is(b bool) string {
	if b {
		return "\x01"
	}
	return "\x00"
}

// conf is the record of a configuration that leaves the row; over is that of one that discards it; cmd is a command's.
func conf(c master.Config) string { return ofConfig(c, false) }

func over(c master.Config) string { return ofConfig(c, true) }

func cmd(s string) string { return "\x01" + text(s) }

func ofConfig(c master.Config, discards bool) string {
	rec := "\x00" + num(c.Epoch) + is(c.Joining) + is(discards) + num(len(c.Members))
	for _, m := range c.Members {
		rec += num(m)
	}
	return rec
}

// cmds are the records of these commands.
func cmds(row ...string) []string {
	var l []string
	for _, s := range row {
		l = append(l, cmd(s))
	}
	return l
}

// long is a text of that many bytes.
func long(n int) string { return strings.Repeat("daisychain ", n/11+1)[:n] }

// upTo is a row of so many commands, each another one.
func upTo(many int) []string {
	var l []string
	for i := range many {
		l = append(l, "c"+strconv.Itoa(i+1))
	}
	return l
}

// content is what a file has: its bytes, and how many of them are not synced.
type content struct {
	bytes string
	loose int
}

// String tells it, but for most of its bytes if these are many.
func (c content) String() string {
	return strconv.Quote(c.bytes[:min(len(c.bytes), 60)]) + " of " + strconv.Itoa(len(c.bytes)) + " bytes, loose " + strconv.Itoa(c.loose)
}

// contents are what all files have.
type contents map[string]content

// of is what a disk has; nothing if there is none.
func of(d *disk.Disk) contents {
	c := contents{}
	if d == nil {
		return c
	}
	for _, name := range d.Names() {
		b, _ := d.Read(name)
		c[name] = content{string(b), d.Loose(name)}
	}
	return c
}

// wantDisk checks what a disk has.
func wantDisk(t testing.TB, d *disk.Disk, want contents) {
	t.Helper()
	if got := of(d); !maps.Equal(got, want) {
		t.Fatalf("the disk has\n%v, not\n%v", got, want)
	}
}

// wantSynced checks that a crash would take nothing of a disk.
func wantSynced(t testing.TB, d *disk.Disk) {
	t.Helper()
	for _, name := range d.Names() {
		if n := d.Loose(name); n != 0 {
			t.Fatalf("%d bytes of %q are not synced", n, name)
		}
	}
}

// ok checks that there is no error.
func ok(t testing.TB, e api.Errno) {
	t.Helper()
	if e != api.OK {
		t.Fatal(e)
	}
}

// sealed are the frames of these records.
func sealed(recs ...string) string {
	all := ""
	for _, rec := range recs {
		f, e := frame.Seal([]byte(rec))
		if e != api.OK {
			panic(e)
		}
		all += string(f)
	}
	return all
}

// bytesOf is how many bytes the frames of records have: six more each.
func bytesOf(recs []string) int {
	n := 0
	for _, rec := range recs {
		n += 6 + len(rec)
	}
	return n
}

// with is a disk whose only segment has these bytes, synced, and on which there is room for more.
func with(t testing.TB, bytes string) *disk.Disk {
	t.Helper()
	d := disk.New(api.MaxDisk)
	put(t, d, seg(1), bytes)
	ok(t, d.Sync(seg(1)))
	return d
}

// put writes behind a file.
func put(t testing.TB, d *disk.Disk, name, bytes string) {
	t.Helper()
	ok(t, d.Append(name, []byte(bytes)))
}

// seg is the name of the segment whose first record has that number; snap is the file of a snapshot.
func seg(first int) string {
	digits := strconv.Itoa(first)
	return "log" + strings.Repeat("0", 8-len(digits)) + digits
}

func snap(at int, b string) string { return sealed(string(coil.Num(nil, at)) + b) }

// recsOf are the records that a disk's log has.
func recsOf(t testing.TB, d *disk.Disk) []string {
	t.Helper()
	l, err := wal.Open(d.Copy(), 16)
	if err != nil {
		t.Fatal(err)
	}
	var recs []string
	for k := l.Base() + 1; k <= l.Last(); k++ {
		rec, _ := l.Get(k)
		recs = append(recs, string(rec))
	}
	return recs
}

// open is a disk's book.
func open(t testing.TB, d *disk.Disk, size int) *book.Book {
	t.Helper()
	b, err := book.Open(d, size)
	if err != nil || b == nil {
		t.Fatalf("Open: %v, %v of %v", b, err, of(d))
	}
	return b
}

// fresh is an empty book, and its disk.
func fresh(t testing.TB, room, size int) (*book.Book, *disk.Disk) {
	t.Helper()
	d := disk.New(room)
	return open(t, d, size), d
}

// sameKeep compares; lists that are nil and those that are empty are the same.
func sameKeep(a, b chain.Keep) bool {
	return a.Config.Epoch == b.Config.Epoch && a.Config.Joining == b.Config.Joining &&
		slices.Equal(a.Config.Members, b.Config.Members) && slices.Equal(a.Row, b.Row)
}

// wantBook checks what a book contains, and how many records it has.
func wantBook(t testing.TB, b *book.Book, k chain.Keep, many int) {
	t.Helper()
	if got := b.Keep(); !sameKeep(got, k) {
		t.Fatalf("the book contains\n%v, not\n%v", got, k)
	}
	if got := b.Many(); got != many {
		t.Fatalf("the book has %d records, not %d", got, many)
	}
}

// wantRecs checks the records of a book's disk, each byte of them, what it contains, and that a crash would take nothing.
func wantRecs(t testing.TB, b *book.Book, d *disk.Disk, k chain.Keep, recs ...string) {
	t.Helper()
	if got := recsOf(t, d); !slices.Equal(got, recs) {
		t.Fatalf("the records are\n%q, not\n%q", got, recs)
	}
	wantBook(t, b, k, len(recs))
	wantSynced(t, d)
	wantBook(t, open(t, d.Copy(), 16), k, len(recs))
}

// wantBad checks that a disk has no book, because of that file, and that it stays as it is.
func wantBad(t testing.TB, d *disk.Disk, size int, file string, e api.Errno) {
	t.Helper()
	before := of(d)
	b, err := book.Open(d, size)
	var bad *wal.Bad
	if b != nil || !errors.As(err, &bad) || bad.File != file || !errors.Is(err, e) {
		t.Fatalf("Open: %v, %v; not %q and %v; of %v", b, err, file, e, before)
	}
	wantDisk(t, d, before)
}

// wantRefusal checks that a Save returns ErrState, and changes neither the book nor the disk.
func wantRefusal(t testing.TB, b *book.Book, d *disk.Disk, k chain.Keep) {
	t.Helper()
	before, many, files := b.Keep(), b.Many(), of(d)
	if e := b.Save(k); e != api.ErrState {
		t.Fatalf("Save of %v: %v, not %v", k.Config, e, api.ErrState)
	}
	wantBook(t, b, before, many)
	wantDisk(t, d, files)
}
