package wal

// Bad is a file that is amiss, and why.
type Bad struct {
	File string
	Err  error
}

// Error tells it.
func (b *Bad) Error() string { return b.File + ": " + textOf(b.Err) }

// Unwrap is why.
func (b *Bad) Unwrap() error { return b.Err }

// textOf is an error's text; nothing if there is no error, or if it panics when it is asked: whoever makes a Bad may
// give it any error, and no call may panic.
func textOf(err error) (text string) {
	if err == nil {
		return ""
	}
	defer func() { _ = recover() }()
	return err.Error()
}
