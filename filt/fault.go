package filt

import (
	"errors"
	"strconv"

	"latiner/api"
)

var (
	errDeep  = errors.New("too deep")
	errCount = errors.New("too many, or none")
	errName  = errors.New("no attribute's name")
	errLong  = errors.New("too long, or empty where it may not be")
	errField = errors.New("something that this kind has not")
	errSign  = errors.New("a sign is missing")
	errMore  = errors.New("more stands behind the filter")
)

// noKind is a number that no kind has.
type noKind struct{ kind int }

func (n noKind) Error() string { return "no kind: " + strconv.Itoa(n.kind) }

// noValue is what layer 6 said where no value is told.
type noValue struct{ e api.Errno }

func (n noValue) Error() string { return "no value: error " + strconv.Itoa(int(n.e)) }

// fault wraps what is wrong with the place where it is.
type fault struct {
	at  int
	why error
}

func (f fault) Error() string { return "at " + strconv.Itoa(f.at) + ": " + f.why.Error() }

func (f fault) Unwrap() error { return f.why }

// errnoOf is the number of what is wrong, wrapped or not; OK, if nothing is.
func errnoOf(err error) api.Errno {
	var kind noKind
	var value noValue
	switch {
	case errors.As(err, &kind), errors.As(err, &value):
		return api.ErrFilter
	case errors.Is(err, errDeep), errors.Is(err, errCount), errors.Is(err, errName), errors.Is(err, errLong):
		return api.ErrFilter
	case errors.Is(err, errField), errors.Is(err, errSign), errors.Is(err, errMore):
		return api.ErrFilter
	}
	return api.OK
}
