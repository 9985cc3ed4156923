package fail

import (
	"errors"

	"sojourn/api"
)

// The bounds of what is gone through: far more levels than the document's 2^16, and no more parts than its 2^31 - 1.
const (
	maxLevels = 1 << 20
	maxParts  = 1<<31 - 1
)

// walk goes through an error and all that it wraps, in the order of errors.As.
type walk struct {
	stop    func(error) bool
	left    int
	endless bool
}

// ends tells whether errors.As comes to an end on its way through err to the first error at which stop holds. It is asked ahead of errors.As, which would go round for ever in an error that wraps itself.
func ends(err error, stop func(error) bool) bool {
	w := walk{stop: stop, left: maxParts}
	w.through(err, 0)
	return !w.endless
}

// through tells whether the walk goes on behind err. The last of what is wrapped is met in a loop, so that long chains take no stack.
func (w *walk) through(err error, level int) bool {
	for ; err != nil; level++ {
		if level > maxLevels || w.left == 0 {
			w.endless = true
			return false
		}
		w.left--
		if w.stop(err) {
			return false
		}
		l := inner(err)
		if len(l) == 0 {
			return true
		}
		last := len(l) - 1
		for _, e := range l[:last] {
			if !w.through(e, level+1) {
				return false
			}
		}
		err = l[last]
	}
	return true
}

// inner is what an error wraps: nothing, if it panics when it is asked.
func inner(err error) (l []error) {
	defer func() {
		if recover() != nil {
			l = nil
		}
	}()
	switch x := err.(type) {
	case interface{ Unwrap() error }:
		return []error{x.Unwrap()}
	case interface{ Unwrap() []error }:
		return x.Unwrap()
	}
	return nil
}

// as is errors.As, but false, if an error panics when it is asked.
func as(err error, target any) (ok bool) {
	defer func() {
		if recover() != nil {
			ok = false
		}
	}()
	return errors.As(err, target)
}

// said is an error's text: empty, if it panics when it is asked.
func said(err error) (s string) {
	defer func() {
		if recover() != nil {
			s = ""
		}
	}()
	return err.Error()
}

func isCode(err error) bool {
	_, ok := err.(api.Code)
	return ok
}

func isPlace(err error) bool {
	_, ok := err.(*Error)
	return ok
}

func nowhere(error) bool { return false }
