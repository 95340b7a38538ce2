package prim

import (
	"errors"
	"strconv"

	"latiner/api"
)

var errBool = errors.New("a boolean has one byte")

// noNumber is why something is no number, or no number's bytes.
type noNumber struct{ why string }

func (e noNumber) Error() string { return "no number: " + e.why }

// fault wraps what is wrong with the place where it is seen.
type fault struct {
	at  int
	why error
}

func (f fault) Error() string { return "at " + strconv.Itoa(f.at) + ": " + f.why.Error() }

func (f fault) Unwrap() error { return f.why }

// errnoOf is the number of what is wrong, wrapped or not; OK, if nothing is.
func errnoOf(err error) api.Errno {
	var none noNumber
	switch {
	case errors.As(err, &none):
		return api.ErrNumber
	case errors.Is(err, errBool):
		return api.ErrBool
	default:
		return api.OK
	}
}
