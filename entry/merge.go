package entry

// Add has one more.
func (l *Log) Add(e Entry) int {
	l.put(len(l.entries), e)
	return l.Last()
}

// Merge has entries of another log, which stand there after entry at, of that term.
func (l *Log) Merge(at, term int, more []Entry) (int, bool) {
	if at < 0 {
		return 0, false
	}
	end := at + len(more)
	if at < l.base {
		past := l.base - at
		if past >= len(more) {
			return end, true
		}
		at, term, more = l.base, l.term, more[past:]
	}
	if own, is := l.Term(at); !is || own != term {
		return 0, false
	}
	for i, e := range more {
		l.take(at-l.base+i, e)
	}
	return end, true
}

// take has an entry of another log stand at a place, unless the one there has its term, and so is the same one.
func (l *Log) take(place int, e Entry) {
	if place == len(l.entries) || l.entries[place].Term != e.Term {
		l.put(place, e)
	}
}

// put has an entry stand at a place, as the last one. Where it takes the place of others, it is appended behind three
// indexes, and so to a new array: the old one, behind a shorter slice, would keep all that was removed.
func (l *Log) put(place int, e Entry) {
	before := l.entries
	if place < len(before) {
		before = before[:place:place]
	}
	l.entries = append(before, e)
}
