// Package coil is layer 1: numbers and texts, as bytes: see shared/doc/01-coil.md.
package coil

import "strconv"

// base is what a digit of a number is below; every byte but a number's last one has it added.
const base = 128

// digits is how many digits a number has at most: those of seven bits each that make 63 bits.
const digits = 9

// Fault is where something is amiss, and what.
type Fault struct {
	At  int
	Err error
}

// Error tells it.
func (f *Fault) Error() string {
	return "byte " + strconv.Itoa(f.At) + ": " + textOf(f.Err)
}

// Unwrap is what is amiss.
func (f *Fault) Unwrap() error { return f.Err }

// textOf is an error's text; nothing if there is no error, or if it panics when it is asked: whoever makes a Fault may
// give it any error, and no call may panic.
func textOf(err error) (text string) {
	if err == nil {
		return ""
	}
	defer func() { _ = recover() }()
	return err.Error()
}

// Num writes a number.
func Num(b []byte, n int) []byte {
	return appendNum(cloneFor(b, digits), n)
}

// Text writes a text.
func Text(b []byte, s string) []byte {
	return append(appendNum(cloneFor(b, digits+len(s)), len(s)), s...)
}

// Nums writes a row.
func Nums(b []byte, l []int) []byte {
	out := appendNum(cloneFor(b, digits+len(l)), len(l))
	for _, n := range l {
		out = appendNum(out, n)
	}
	return out
}

// cloneFor is a copy of b with room for more bytes: what is written never lands in the spare capacity of an argument.
func cloneFor(b []byte, more int) []byte {
	return append(make([]byte, 0, len(b)+more), b...)
}

// appendNum appends a number to bytes that belong to this package.
func appendNum(b []byte, n int) []byte {
	for n = max(n, 0); n >= base; n /= base {
		b = append(b, byte(base+n%base))
	}
	return append(b, byte(n))
}
