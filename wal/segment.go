package wal

import "strconv"

const (
	// logName is what the name of a segment begins with, ahead of its digits.
	logName = "log"
	digits  = 8

	// headBytes is how many bytes a frame has ahead of those of its record: their number, and the checksum.
	headBytes = 6
)

// segment is a file of records: the number of the first one, and how many bytes their frames occupy.
type segment struct{ first, bytes int }

// name is the file's.
func (s segment) name() string {
	return logName + strconv.Itoa(numbers + s.first)[1:] // all digits but the first one, which is more than they need
}

// firstOf is the number of the first record of the segment with that name, and whether a segment may have it. The name
// is one that begins as those of segments do.
func firstOf(name string) (int, bool) {
	number := name[len(logName):]
	if len(number) != digits {
		return 0, false
	}
	first := 0
	for _, digit := range number {
		if digit < '0' || digit > '9' {
			return 0, false
		}
		first = 10*first + int(digit-'0')
	}
	return first, true
}
