package disk_test

import (
	"math/rand"
	"slices"
	"strings"
	"testing"

	"daisychain/api"
	"daisychain/disk"
)

func TestP33Example(t *testing.T) {
	d := disk.New(100)
	ok(t, d.Append("f", []byte("abc")))
	ok(t, d.Sync("f"))
	ok(t, d.Append("f", []byte("defg")))
	d.Crash([]int{2})
	wantDisk(t, d, contents{"f": {"abcde", 0}})
}

// wantSurvivors checks what a Crash leaves: each file, with all that was synced, and of the rest a prefix.
func wantSurvivors(t testing.TB, before, after contents) {
	t.Helper()
	if len(after) != len(before) {
		t.Fatalf("of the files %v, those after a Crash are %v", before, after)
	}
	for name, c := range before {
		left, there := after[name]
		if !there || !strings.HasPrefix(c.bytes, left.bytes) || len(left.bytes) < len(c.bytes)-c.loose || left.loose != 0 {
			t.Fatalf("%q had %v, and after a Crash %v", name, c, left)
		}
	}
}

func TestP33Crash(t *testing.T) {
	for keep := -2; keep < 20; keep++ {
		for place := range 5 {
			d := some(t)
			before := of(t, d)
			l := make([]int, place+1)
			l[place] = keep
			d.Crash(l)
			wantSurvivors(t, before, of(t, d))
		}
	}
}

// model is a disk, as the document's words say it: a file is the text that is synced, and the text behind it.
type model struct {
	room  int
	names []string
	texts [][2]string
}

// find is the place of a file, or -1.
func (m *model) find(name string) int { return slices.Index(m.names, name) }

// contents are what the model's files have.
func (m *model) contents() contents {
	c := contents{}
	for i, name := range m.names {
		c[name] = content{m.texts[i][0] + m.texts[i][1], len(m.texts[i][1])}
	}
	return c
}

// used is how many bytes the model's files have.
func (m *model) used() int { return len(strings.Join(m.all(), "")) }

// all are the model's files, whole.
func (m *model) all() []string {
	var l []string
	for _, t := range m.texts {
		l = append(l, t[0]+t[1])
	}
	return l
}

func (m *model) append(name string, b []byte) api.Errno {
	if len(name) < 1 || len(name) > 32 || strings.Contains(name, "\n") {
		return api.ErrArg
	}
	if m.used()+len(b) > m.room {
		return api.ErrFull
	}
	if m.find(name) < 0 {
		at, _ := slices.BinarySearch(m.names, name)
		m.names = slices.Insert(m.names, at, name)
		m.texts = slices.Insert(m.texts, at, [2]string{})
	}
	m.texts[m.find(name)][1] += string(b)
	return api.OK
}

// cut has a file keep n bytes, or all of them if n is below 0.
func (m *model) cut(name string, n int) {
	i := m.find(name)
	whole := m.all()[i]
	if n < 0 {
		n = len(whole)
	}
	m.texts[i] = [2]string{whole[:n], ""}
}

func (m *model) remove(name string) {
	i := m.find(name)
	m.names = slices.Delete(m.names, i, i+1)
	m.texts = slices.Delete(m.texts, i, i+1)
}

func (m *model) rename(from, to string) api.Errno {
	if m.find(from) < 0 {
		return api.ErrName
	}
	if len(to) < 1 || len(to) > 32 || strings.Contains(to, "\n") {
		return api.ErrArg
	}
	if from == to {
		return api.OK
	}
	whole := m.all()[m.find(from)]
	m.remove(from)
	if m.find(to) >= 0 {
		m.remove(to)
	}
	m.append(to, []byte(whole))
	m.cut(to, -1)
	return api.OK
}

func (m *model) crash(keep []int) {
	for k := range m.names {
		n := 0
		if k < len(keep) && keep[k] >= 0 {
			n = keep[k] % (len(m.texts[k][1]) + 1)
		}
		m.texts[k] = [2]string{m.texts[k][0] + m.texts[k][1][:n], ""}
	}
}

// pair is a disk and its model.
type pair struct {
	d *disk.Disk
	m *model
}

// play does to both what one number says, with a name and another number.
func (p *pair) play(t testing.TB, what int, name, other string, n int) {
	t.Helper()
	i := p.m.find(name)
	var got, want api.Errno
	switch what % 8 {
	case 0, 1, 2:
		b := []byte(strings.Repeat(other, 20)[:min(max(n, 0), 20*len(other))])
		got, want = p.d.Append(name, b), p.m.append(name, b)
	case 3:
		got, want = p.d.Sync(name), api.ErrName
		if i >= 0 {
			want = api.OK
			p.m.cut(name, -1)
		}
	case 4:
		got, want = p.d.Cut(name, n), api.ErrName
		if i >= 0 && (n < 0 || n > len(p.m.all()[i])) {
			want = api.ErrArg
		} else if i >= 0 {
			want = api.OK
			p.m.cut(name, n)
		}
	case 5:
		got, want = p.d.Remove(name), api.ErrName
		if i >= 0 {
			want = api.OK
			p.m.remove(name)
		}
	case 6:
		got, want = p.d.Rename(name, other), p.m.rename(name, other)
	default:
		before := of(t, p.d)
		keep := []int{n, n - 3, 2 * n, n % 5}
		p.d.Crash(keep)
		p.m.crash(keep)
		wantSurvivors(t, before, of(t, p.d))
	}
	if got != want {
		t.Fatalf("op %d on %q, %q with %d: %v, not %v", what%8, name, other, n, got, want)
	}
	wantDisk(t, p.d, p.m.contents())
}

// names are those on which disks are played with.
var names = []string{"a", "b", "c", "ab", "log1", "\n", "", "snap"}

func TestP33LikeModel(t *testing.T) {
	for seed := range 200 {
		r := rand.New(rand.NewSource(int64(seed)))
		room := []int{0, 1, 9, 60, 200, 1000}[r.Intn(6)]
		p := &pair{disk.New(room), &model{room: room}}
		for range 150 {
			if r.Intn(20) == 0 {
				old, was := p.d, of(t, p.d)
				p.d = p.d.Copy()
				old.Crash(nil)
				wantDisk(t, p.d, was)
			}
			p.play(t, r.Intn(8), names[r.Intn(len(names))], names[r.Intn(len(names))], r.Intn(40)-3)
		}
	}
}

func FuzzP33LikeModel(f *testing.F) {
	f.Add([]byte{0, 0, 9, 3, 0, 0, 0, 0, 12, 7, 0, 2})
	f.Add([]byte{1, 1, 30, 6, 1, 5, 6, 1, 8, 5, 0, 0, 4, 2, 4})
	f.Fuzz(func(t *testing.T, b []byte) {
		p := &pair{disk.New(50), &model{room: 50}}
		for ; len(b) >= 3; b = b[3:] {
			p.play(t, int(b[0]), names[b[1]%8], names[b[1]/8%8], int(int8(b[2])))
		}
	})
}
