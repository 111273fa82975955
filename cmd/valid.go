package cmd

import (
	"bytes"
	"slices"

	"daisychain/api"
	"daisychain/coil"
)

// most is the greatest number that is valid.
const most = 1 << 62

// fits tells whether a number is valid, as it is encoded.
func fits(n int) bool { return 0 <= n && n <= most }

// short tells whether a text is valid.
func short(s string) bool { return len(s) <= api.MaxText }

// all tells whether each one of a list is right.
func all[T any](l []T, right func(T) bool) bool {
	return !slices.ContainsFunc(l, func(v T) bool { return !right(v) })
}

// exactly is what a reader read from b, if these bytes are its encoding. The reader's error does not tell everything: a
// number above most, a flag of 2, or a count of 11, of which only 10 were read, comes without one.
func exactly[T any](b []byte, r *coil.Reader, v T, write func(T) ([]byte, error)) (T, error) {
	var none T
	if err := r.Done(); err != nil {
		return none, err
	}
	if w, err := write(v); err != nil || !bytes.Equal(w, b) {
		return none, &refusal{"bytes that encode nothing", api.ErrForm}
	}
	return v, nil
}

// refusal is an error, and what it is about.
type refusal struct {
	what string
	why  api.Errno
}

// Error tells it.
func (r *refusal) Error() string { return r.what + ": " + r.why.Error() }

// Unwrap is why.
func (r *refusal) Unwrap() error { return r.why }
