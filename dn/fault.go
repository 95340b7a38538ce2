package dn

import (
	"errors"
	"strconv"

	"latiner/api"
)

var (
	errCount = errors.New("too many parts, or none")
	errType  = errors.New("no type")
	errLong  = errors.New("the value is too long")
	errPiece = errors.New("no sign between a type and a value")
)

// noValue is what layer 6 said where no value is told.
type noValue struct{ e api.Errno }

func (n noValue) Error() string { return "no value: error " + strconv.Itoa(int(n.e)) }

// fault wraps what is wrong with the number of the part that it is in.
type fault struct {
	part int
	why  error
}

func (f fault) Error() string { return "in part " + strconv.Itoa(f.part) + ": " + f.why.Error() }

func (f fault) Unwrap() error { return f.why }

// errnoOf is the number of what is wrong, wrapped or not; OK, if nothing is.
func errnoOf(err error) api.Errno {
	var value noValue
	switch {
	case errors.As(err, &value):
		return api.ErrDn
	case errors.Is(err, errCount), errors.Is(err, errType), errors.Is(err, errLong), errors.Is(err, errPiece):
		return api.ErrDn
	}
	return api.OK
}
