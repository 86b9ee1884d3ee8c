// Package fault is layer 1; see shared/doc/01-fault.md.
package fault

import (
	"errors"

	"kenning/api"
)

// none is the offset of an error without an api.Fault in its chain.
const none = -1

// named is an error with a name in front of its text.
type named struct {
	name string
	err  error
}

// Error returns the name and the text of the error behind it.
func (n *named) Error() string { return n.name + ": " + n.err.Error() }

// Unwrap returns the error behind the name.
func (n *named) Unwrap() error { return n.err }

// first returns the first T in the chain of an error. It runs methods of errors
// that may be of any type; one that panics, as that of a nil pointer may, ends the chain.
func first[T error](err error) (found T, ok bool) {
	defer func() { _ = recover() }()
	var link T
	if errors.As(err, &link) {
		return link, true
	}
	return found, false
}

// holds reports whether a code is in the chain of an error, which ends as in first.
func holds(err error, code api.Errno) (found bool) {
	defer func() { _ = recover() }()
	return errors.Is(err, code)
}

// New returns a fault, or nil for api.OK.
func New(code api.Errno, at int) error {
	if code == api.OK {
		return nil
	}
	return api.Fault{Code: code, At: at}
}

// Code returns the code of an error.
func Code(err error) api.Errno {
	if err == nil {
		return api.OK
	}
	if code, ok := first[api.Errno](err); ok {
		return code
	}
	return api.ErrOther
}

// Has reports whether the chain of an error has one of some codes.
func Has(err error, codes ...api.Errno) bool {
	for _, code := range codes {
		if holds(err, code) {
			return true
		}
	}
	return false
}

// At returns the offset of an error.
func At(err error) int {
	if f, ok := first[api.Fault](err); ok {
		return f.At
	}
	return none
}

// Shift returns a fault at a later offset, or the error itself if it has no fault.
func Shift(err error, by int) error {
	f, ok := first[api.Fault](err)
	if !ok {
		return err
	}
	// Not New, which would lose a fault whose code is api.OK.
	return api.Fault{Code: Code(err), At: f.At + by}
}

// Wrap returns an error with a name in front of its text.
func Wrap(name string, err error) error {
	if err == nil {
		return nil
	}
	return &named{name, err}
}

// Least returns the first error with the least offset, or else the first error.
func Least(errs ...error) error {
	var least, other error
	at := 0
	for _, err := range errs {
		f, ok := first[api.Fault](err)
		if ok && (least == nil || f.At < at) {
			least, at = err, f.At
		}
		if other == nil {
			other = err
		}
	}
	if least != nil {
		return least
	}
	return other
}
