package lane_test

import (
	"math/rand"
	"slices"
	"strconv"
	"testing"

	"daisychain/lane"
)

// item is an item, and its group.
type item struct {
	group string
	id    int
}

// model is lanes, as the document's words say them: all items, in the order in which they were added.
type model struct{ items []item }

// find is the place of an item, or -1.
func (m *model) find(id int) int {
	return slices.IndexFunc(m.items, func(x item) bool { return x.id == id })
}

func (m *model) add(group string, id int) bool {
	if m.find(id) >= 0 {
		return false
	}
	m.items = append(m.items, item{group, id})
	return true
}

func (m *model) drop(id int) bool {
	i := m.find(id)
	if i < 0 {
		return false
	}
	m.items = slices.Delete(m.items, i, i+1)
	return true
}

// pair is lanes and their model.
type pair struct {
	l *lane.Lanes
	m *model
}

// play does to both what one number says, with a group and the number of an item.
func (p *pair) play(t testing.TB, what int, group string, id int) {
	t.Helper()
	switch what % 8 {
	default:
		if got, want := p.l.Add(group, id), p.m.add(group, id); got != want {
			t.Fatalf("Add of %q, %d: %v", group, id, got)
		}
	case 4, 5, 6:
		if got, want := p.l.Drop(id), p.m.drop(id); got != want {
			t.Fatalf("Drop of %d: %v", id, got)
		}
	case 7:
		was := p.l
		p.l = p.l.Copy()
		was.Drop(id)
		was.Add(group, id)
	}
	wantLanes(t, p.l, p.m.items...)
	if p.m.find(id) < 0 {
		wantAbsent(t, p.l, id)
	}
}

func TestP61LikeModel(t *testing.T) {
	for seed := range 200 {
		r := rand.New(rand.NewSource(int64(seed)))
		p := &pair{lane.New(), &model{}}
		ids, groups := 1+r.Intn(60), 1+r.Intn(12)
		for range 200 {
			p.play(t, r.Intn(8), strconv.Itoa(r.Intn(groups)), r.Intn(ids)-3)
		}
	}
}

func FuzzP61LikeModel(f *testing.F) {
	f.Add([]byte{0, 'a', 1, 0, 'b', 2, 0, 'a', 3, 4, 0, 1})
	f.Add([]byte{0, 0, 9, 0, 1, 8, 0, 1, 7, 0, 2, 7, 4, 3, 8, 7, 1, 1, 4, 0, 7, 0, 1, 8})
	f.Fuzz(func(t *testing.T, b []byte) {
		p := &pair{lane.New(), &model{}}
		for ; len(b) >= 3; b = b[3:] {
			group := string(b[1:2])
			if b[1] == 0 {
				group = ""
			}
			p.play(t, int(b[0]), group, int(int8(b[2])))
		}
	})
}
