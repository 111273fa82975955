package wal

import (
	"errors"
	"slices"
	"strings"

	"daisychain/api"
	"daisychain/coil"
	"daisychain/disk"
	"daisychain/frame"
)

// Open is a disk's log. The disk is changed only after all of it was read, since an error must leave it as it is.
func Open(d *disk.Disk, size int) (*Log, error) {
	if d == nil || size < leastSize || size > mostSize {
		return nil, &Bad{Err: api.ErrArg}
	}
	l := &Log{disk: d, size: size}
	if e := l.readSnap(); e != api.OK {
		return nil, &Bad{File: snapName, Err: e}
	}
	if file, e := l.readSegments(); e != api.OK {
		return nil, &Bad{File: file, Err: e}
	}
	l.settle()
	return l, nil
}

// readSnap reads the snapshot, if there is one.
func (l *Log) readSnap() api.Errno {
	b, e := l.disk.Read(snapName)
	if errors.Is(e, api.ErrName) {
		return api.OK
	}
	body, rest, e := frame.Next(b)
	if e != api.OK {
		return e
	}
	r := coil.Of(body)
	base := r.Num()
	if len(rest) > 0 || r.Err() != nil || base >= numbers {
		return api.ErrForm
	}
	l.base, l.snapshot = base, body[r.At():]
	return api.OK
}

// readSegments reads all segments, or tells which one is amiss, and why.
func (l *Log) readSegments() (file string, e api.Errno) {
	names := slices.DeleteFunc(l.disk.Names(), func(name string) bool { return !strings.HasPrefix(name, logName) })
	next := 0 // the number after the last record of the previous segment
	for i, name := range names {
		first, valid := firstOf(name)
		if !valid || i > 0 && first != next || i == 0 && (first == 0 || first > l.base+1) {
			return name, api.ErrForm
		}
		count, e := l.readSegment(segment{first: first})
		if e != api.OK && i < len(names)-1 { // behind the last segment's frames, there may be what a crash left of one
			return name, e
		}
		next = first + count
	}
	if len(names) > 0 && next-1 < l.base {
		return names[len(names)-1], api.ErrForm
	}
	return "", api.OK
}

// readSegment reads a segment, and tells how many records it has, and why its bytes stop to be frames. Of the records,
// those up to the snapshot's number are not kept.
func (l *Log) readSegment(s segment) (int, api.Errno) {
	b, e := l.disk.Read(s.name())
	if e != api.OK {
		return 0, e
	}
	records, used, e := frame.All(b)
	s.bytes = used
	l.segments = append(l.segments, s)
	old := min(max(l.base+1-s.first, 0), len(records))
	l.records = append(l.records, records[old:]...)
	return len(records), e
}

// settle has the disk be as a log leaves it. The snapshot is synced as well: otherwise a crash could tear one that
// somebody else wrote.
func (l *Log) settle() {
	for _, s := range l.segments {
		l.disk.Sync(s.name())
	}
	if s := l.last(); s != nil {
		l.disk.Cut(s.name(), s.bytes)
	}
	l.disk.Sync(snapName)
	l.disk.Remove(newName)
	l.synced = l.Last()
}
