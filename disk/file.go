package disk

import "bytes"

// file is bytes, of which the first ones are synced.
type file struct {
	bytes  []byte
	synced int
}

// loose is how many bytes are not synced.
func (f *file) loose() int { return len(f.bytes) - f.synced }

// sync has all bytes be synced.
func (f *file) sync() { f.synced = len(f.bytes) }

// keep drops all bytes but the first n. Where these are few, the memory of the others is given back as well: many
// files that were large once would else hold far more than a disk has room for.
func (f *file) keep(n int) {
	f.bytes = f.bytes[:n]
	if n < cap(f.bytes)/2 {
		f.bytes = bytes.Clone(f.bytes)
	}
}
