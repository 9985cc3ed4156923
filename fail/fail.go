// Package fail is layer 1: errors that wrap one another, and say where: see shared/doc/01-fail.md.
package fail

import (
	"strings"

	"sojourn/api"
)

// maxTrail is how many places a trail has at most.
const maxTrail = 100

// Error is an error with the place where it was met.
type Error struct {
	Where string
	At    int
	Err   error
}

// Error is its text. Of an error that wraps itself, whose text would have no end, it is Where alone.
func (e *Error) Error() string {
	if e == nil {
		return ""
	}
	if !ends(e.Err, nowhere) {
		return e.Where
	}
	var b strings.Builder
	write(&b, e)
	return b.String()
}

// Unwrap is what it wraps.
func (e *Error) Unwrap() error {
	if e == nil {
		return nil
	}
	return e.Err
}

// At wraps an error with a place.
func At(where string, at int, err error) error {
	if err == nil {
		return nil
	}
	return &Error{Where: where, At: at, Err: err}
}

// Both is two errors in one.
func Both(a, b error) error {
	if a == nil {
		return b
	}
	if b == nil {
		return a
	}
	return &pair{a: a, b: b}
}

// Number is the number of an error's code.
func Number(err error) int {
	if err == nil {
		return 0
	}
	var c api.Code
	if ends(err, isCode) && as(err, &c) {
		return int(c)
	}
	return -1
}

// Place is where an error was met last.
func Place(err error) (string, int, bool) {
	e, ok := first(err)
	if !ok {
		return "", 0, false
	}
	return e.where(), e.at(), true
}

// Trail is all places.
func Trail(err error) []string {
	var l []string
	for len(l) < maxTrail {
		e, ok := first(err)
		if !ok {
			break
		}
		l = append(l, e.where())
		err = e.Unwrap()
	}
	return l
}

// Class is how bad an error is.
func Class(err error) int {
	if err == nil {
		return 0
	}
	class := 0
	switch api.Code(Number(err)) {
	default:
		class++
		fallthrough
	case api.ErrCookie, api.ErrRevoked, api.ErrGone:
		class++
		fallthrough
	case api.ErrLapsed, api.ErrHome, api.ErrFull, api.ErrDown:
		class++
		fallthrough
	case api.ErrEarly:
		class++
	}
	return class
}

// first is the first *Error that errors.As finds, which may be a nil one.
func first(err error) (*Error, bool) {
	var e *Error
	if ends(err, isPlace) && as(err, &e) {
		return e, true
	}
	return nil, false
}

// where is Where, also of a nil *Error.
func (e *Error) where() string {
	if e == nil {
		return ""
	}
	return e.Where
}

// at is At, also of a nil *Error.
func (e *Error) at() int {
	if e == nil {
		return 0
	}
	return e.At
}

// pair is two errors in one. It is wrapped by its address, since errors.Is holds errors against each other, and what stands in it may not be comparable.
type pair struct {
	a, b error
}

// Error is the texts of both.
func (p *pair) Error() string {
	if !ends(p, nowhere) {
		return ""
	}
	var b strings.Builder
	write(&b, p)
	return b.String()
}

// Unwrap is both.
func (p *pair) Unwrap() []error {
	return []error{p.a, p.b}
}

// write puts an error's text behind b. It goes down by itself through what this package makes: if each error asked the next one for a whole text, long chains would be copied again and again.
func write(b *strings.Builder, err error) {
	for {
		switch x := err.(type) {
		case *Error:
			b.WriteString(x.where())
			err = x.Unwrap()
			if err == nil {
				return
			}
			b.WriteString(": ")
		case *pair:
			write(b, x.a)
			b.WriteString("; ")
			err = x.b
		default:
			b.WriteString(said(err))
			return
		}
	}
}
