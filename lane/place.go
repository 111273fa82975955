package lane

import (
	"cmp"
	"slices"
)

// place is the group of a thing, and its turn, which is greater than those of all that came before. Without the turns,
// the order among the groups would be lost.
type place struct {
	group string
	turn  int
}

// compare is below 0 if a came before b, and above 0 if b came before a.
func (l *Lanes) compare(a, b int) int { return cmp.Compare(l.places[a].turn, l.places[b].turn) }

// leave removes those of a group for which gone is true, and the group itself, if it has none then.
func (l *Lanes) leave(group string, gone func(id int) bool) {
	left := slices.DeleteFunc(l.groups[group], gone)
	if len(left) == 0 {
		delete(l.groups, group)
		return
	}
	l.groups[group] = left
}
