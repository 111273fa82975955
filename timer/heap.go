package timer

import "cmp"

// compare is below 0 if a is next before b, and above 0 if b is before a.
func compare(a, b Item) int {
	return cmp.Or(cmp.Compare(a.At, b.At), cmp.Compare(a.Id, b.Id))
}

// take removes the item at a place, and has the last one fill the gap.
func (t *Timer) take(i int) Item {
	gone, last := t.items[i], t.items[len(t.items)-1]
	t.items = t.items[:len(t.items)-1]
	delete(t.places, gone.Id)
	if last != gone { // else there is no gap: no two items are alike, as their numbers differ
		t.settle(i, last)
	}
	return gone
}

// settle puts an item at a place, or as far above or below it as the order asks. What is at that place goes.
func (t *Timer) settle(i int, x Item) {
	t.put(t.sink(t.rise(i, x), x), x)
}

// rise has a gap go up, as long as the item that is to fill it is before the one above; it tells where the gap is then.
func (t *Timer) rise(i int, x Item) int {
	for i > 0 {
		above := (i - 1) / 2
		if compare(x, t.items[above]) > 0 {
			break
		}
		t.put(i, t.items[above])
		i = above
	}
	return i
}

// sink has a gap go down, as long as one below it is before the item that is to fill it.
func (t *Timer) sink(i int, x Item) int {
	for 2*i+1 < len(t.items) {
		below := 2*i + 1
		if below+1 < len(t.items) && compare(t.items[below+1], t.items[below]) < 0 {
			below++
		}
		if compare(x, t.items[below]) < 0 {
			break
		}
		t.put(i, t.items[below])
		i = below
	}
	return i
}

// put has an item be at a place.
func (t *Timer) put(i int, x Item) {
	t.items[i] = x
	t.places[x.Id] = i
}
