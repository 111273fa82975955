package ledger_test

import (
	"math/rand"
	"slices"
	"testing"

	"daisychain/api"
	"daisychain/ledger"
)

// row is a value, its key, and until when it is known.
type row struct {
	key   string
	v     int
	until int
}

// model is a ledger of numbers, as the document's words say it; its rows are in the order in which they are swept.
type model struct {
	room int
	rows []row
}

// find is the place of a key, or -1.
func (m *model) find(key string) int {
	return slices.IndexFunc(m.rows, func(x row) bool { return x.key == key })
}

func (m *model) drop(key string) bool {
	i := m.find(key)
	if i < 0 {
		return false
	}
	m.rows = slices.Delete(m.rows, i, i+1)
	return true
}

// put lays a row where all those before it are ahead of it: with a lesser time, or the same one and a lesser key.
func (m *model) put(x row) api.Errno {
	if m.find(x.key) < 0 && len(m.rows) >= m.room {
		return api.ErrFull
	}
	m.drop(x.key)
	i := 0
	for i < len(m.rows) && (m.rows[i].until < x.until || m.rows[i].until == x.until && m.rows[i].key < x.key) {
		i++
	}
	m.rows = slices.Insert(m.rows, i, x)
	return api.OK
}

func (m *model) sweep(now int) []string {
	var keys []string
	for len(m.rows) > 0 && m.rows[0].until <= now {
		keys = append(keys, m.rows[0].key)
		m.rows = m.rows[1:]
	}
	return keys
}

// pair is a ledger and its model.
type pair struct {
	l *ledger.Ledger[int]
	m *model
}

// play does to both what one number says, with a key, a value and a time.
func (p *pair) play(t testing.TB, what int, x row) {
	t.Helper()
	switch what % 10 {
	default:
		if got, want := p.l.Put(x.key, x.v, x.until), p.m.put(x); got != want {
			t.Fatalf("Put of %v: %v, not %v", x, got, want)
		}
	case 5, 6:
		if got, want := p.l.Drop(x.key), p.m.drop(x.key); got != want {
			t.Fatalf("Drop of %q: %v", x.key, got)
		}
	case 7, 8:
		wantKeys(t, "Sweep", p.l.Sweep(x.until), p.m.sweep(x.until)...)
	case 9:
		was := p.l
		p.l = p.l.Copy()
		was.Drop(x.key)
		was.Put(x.key, x.v, x.until)
		was.Sweep(x.until)
	}
	wantLedger(t, p.l, p.m.rows...)
	if p.m.find(x.key) < 0 {
		wantAbsent(t, p.l, x.key)
	}
}

func TestP71LikeModel(t *testing.T) {
	for seed := range 200 {
		r := rand.New(rand.NewSource(int64(seed)))
		room := r.Intn(20)
		p := &pair{ledger.New[int](room), &model{room: room}}
		keys, times := 1+r.Intn(30), 1+r.Intn(40)
		for n := range 200 {
			key := string(rune('A' + r.Intn(keys)))
			p.play(t, r.Intn(10), row{key[r.Intn(8)/7:], n, r.Intn(times) - 3})
		}
	}
}

func FuzzP71LikeModel(f *testing.F) {
	f.Add(byte(9), []byte{0, 'a', 5, 0, 'b', 3, 7, 0, 4})
	f.Add(byte(2), []byte{0, 0, 9, 0, 1, 9, 0, 2, 1, 0, 1, 255, 9, 1, 0, 5, 0, 0, 0, 2, 255, 7, 0, 255})
	f.Fuzz(func(t *testing.T, room byte, b []byte) {
		p := &pair{ledger.New[int](int(int8(room))), &model{room: int(int8(room))}}
		for n := 0; len(b) >= 3; n, b = n+1, b[3:] {
			key := string(b[1:2])
			if b[1] == 0 {
				key = ""
			}
			p.play(t, int(b[0]), row{key, n, int(int8(b[2]))})
		}
	})
}
