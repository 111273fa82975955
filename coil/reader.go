package coil

import "daisychain/api"

// position is a place in bytes. What reads from it returns a later position and leaves this one as it is, so that a
// reader that fails can stay where it was.
type position struct {
	bytes []byte
	at    int
}

// At is the byte at which it is.
func (p position) At() int { return p.at }

// Left is how many bytes are left.
func (p position) Left() int { return len(p.bytes) - p.at }

// num is the number that begins here.
func (p position) num() (int, position, api.Errno) {
	n := 0
	for i := range digits {
		if p.Left() == 0 {
			return 0, p, api.ErrEnd
		}
		digit := p.bytes[p.at]
		p.at++
		n |= int(digit%base) << (7 * i)
		if digit >= base {
			continue
		}
		if digit == 0 && i > 0 { // a highest digit of 0 could have been left out
			return 0, p, api.ErrForm
		}
		return n, p, api.OK
	}
	return 0, p, api.ErrForm
}

// text is the text that begins here.
func (p position) text(most int) (string, position, api.Errno) {
	size, p, e := p.size(most)
	if e != api.OK {
		return "", p, e
	}
	if size > p.Left() {
		return "", p, api.ErrEnd
	}
	start := p.at
	p.at += size
	return string(p.bytes[start:p.at]), p, api.OK
}

// nums is the list that begins here.
func (p position) nums(most int) ([]int, position, api.Errno) {
	size, p, e := p.size(most)
	if e != api.OK {
		return nil, p, e
	}
	// Each number takes at least a byte, so what is left bounds the room, whatever size says. Too few bytes are no reason
	// to stop here, though: if one of the numbers that are there is malformed, that is the error.
	l := make([]int, 0, min(size, p.Left()))
	for range size {
		var n int
		if n, p, e = p.num(); e != api.OK {
			return nil, p, e
		}
		l = append(l, n)
	}
	return l, p, api.OK
}

// size is the number of bytes, or of numbers, with which a text, or a list, begins here.
func (p position) size(most int) (int, position, api.Errno) {
	size, p, e := p.num()
	if e == api.OK && size > most {
		return 0, p, api.ErrForm
	}
	return size, p, e
}

// Reader reads. Once it failed, why says so, and it reads nothing more.
type Reader struct {
	position
	why api.Errno
}

// Of reads bytes.
func Of(b []byte) *Reader {
	return &Reader{position: position{bytes: append([]byte(nil), b...)}}
}

// Num reads a number.
func (r *Reader) Num() int { return read(r, position.num) }

// Text reads a text.
func (r *Reader) Text(most int) string {
	return read(r, func(p position) (string, position, api.Errno) { return p.text(most) })
}

// Nums reads a row.
func (r *Reader) Nums(most int) []int {
	return read(r, func(p position) ([]int, position, api.Errno) { return p.nums(most) })
}

// read reads what one finds at the reader's position, unless the reader fails, or has failed before.
func read[T any](r *Reader, one func(position) (T, position, api.Errno)) T {
	var none T
	if r.why != api.OK {
		return none
	}
	v, next, e := one(r.position)
	if e != api.OK {
		r.why = e
		return none
	}
	r.position = next
	return v
}

// Err is why it does not go on.
func (r *Reader) Err() error {
	if r.why == api.OK {
		return nil
	}
	return r.fault(r.why)
}

// Done tells whether all was read.
func (r *Reader) Done() error {
	if err := r.Err(); err != nil {
		return err
	}
	if r.Left() > 0 {
		return r.fault(api.ErrForm)
	}
	return nil
}

// fault is a new Fault each time: who is handed one may change it.
func (r *Reader) fault(e api.Errno) *Fault { return &Fault{At: r.at, Err: e} }
