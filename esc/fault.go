package esc

import (
	"errors"
	"strconv"

	"latiner/api"
)

var (
	errText = errors.New("no sign's bytes begin so")
	errMark = errors.New("a backslash stands ahead of nothing that it may")
)

// bare is what is wrong with a byte that stands as it is where it may not.
type bare struct{ b byte }

func (e bare) Error() string { return "not as it is: " + strconv.Itoa(int(e.b)) }

// fault wraps what is wrong with the place where it is seen.
type fault struct {
	at  int
	why error
}

func (f fault) Error() string { return "at " + strconv.Itoa(f.at) + ": " + f.why.Error() }

func (f fault) Unwrap() error { return f.why }

// errnoOf is the number of what is wrong, wrapped or not; OK, if nothing is.
func errnoOf(err error) api.Errno {
	var b bare
	if errors.As(err, &b) || errors.Is(err, errText) || errors.Is(err, errMark) {
		return api.ErrEscape
	}
	return api.OK
}
