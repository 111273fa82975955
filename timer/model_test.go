package timer_test

import (
	"math/rand"
	"slices"
	"testing"

	"daisychain/timer"
)

// model is a timer, as the document's words say it.
type model struct{ items []timer.Item }

// find is the place of an item, or -1.
func (m *model) find(id int) int {
	return slices.IndexFunc(m.items, func(x timer.Item) bool { return x.Id == id })
}

func (m *model) drop(id int) bool {
	i := m.find(id)
	if i < 0 {
		return false
	}
	m.items = slices.Delete(m.items, i, i+1)
	return true
}

// set puts an item where all those before it are ahead of it: with a lesser time, or the same one and a lesser number.
func (m *model) set(id, at int) {
	m.drop(id)
	i := 0
	for i < len(m.items) && (m.items[i].At < at || m.items[i].At == at && m.items[i].Id < id) {
		i++
	}
	m.items = slices.Insert(m.items, i, timer.Item{id, at})
}

func (m *model) due(now int) []timer.Item {
	var l []timer.Item
	for len(m.items) > 0 && m.items[0].At <= now {
		l = append(l, m.items[0])
		m.items = m.items[1:]
	}
	return l
}

// pair is a timer and its model.
type pair struct {
	t *timer.Timer
	m *model
}

// play does to both what one number says, with a number of an item, and another one.
func (p *pair) play(t testing.TB, what, id, n int) {
	t.Helper()
	switch what % 8 {
	default:
		p.t.Set(id, n)
		p.m.set(id, n)
	case 4, 5:
		if got, want := p.t.Drop(id), p.m.drop(id); got != want {
			t.Fatalf("Drop of %d: %v", id, got)
		}
	case 6:
		wantItems(t, "Due", p.t.Due(n), p.m.due(n)...)
	case 7:
		was := p.t
		p.t = p.t.Copy()
		was.Set(id, n)
		was.Due(n)
	}
	wantTimer(t, p.t, p.m.items...)
	if p.m.find(id) < 0 {
		wantAbsent(t, p.t, id)
	}
}

func TestP51LikeModel(t *testing.T) {
	for seed := range 200 {
		r := rand.New(rand.NewSource(int64(seed)))
		p := &pair{timer.New(), &model{}}
		ids, times := 1+r.Intn(60), 1+r.Intn(100)
		for range 200 {
			p.play(t, r.Intn(8), r.Intn(ids)-3, r.Intn(times)-5)
		}
		wantItems(t, "Due", p.t.Due(most), p.m.due(most)...)
		wantTimer(t, p.t)
	}
}

func FuzzP51LikeModel(f *testing.F) {
	f.Add([]byte{0, 1, 5, 0, 2, 3, 0, 3, 5, 6, 0, 5})
	f.Add([]byte{0, 1, 9, 0, 2, 8, 0, 3, 7, 0, 2, 10, 4, 3, 0, 7, 1, 1, 6, 0, 20})
	f.Fuzz(func(t *testing.T, b []byte) {
		p := &pair{timer.New(), &model{}}
		for ; len(b) >= 3; b = b[3:] {
			p.play(t, int(b[0]), int(int8(b[1])), int(int8(b[2])))
		}
	})
}
