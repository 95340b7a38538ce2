package fber

import (
	"errors"
	"strconv"

	"latiner/api"
)

var (
	errRight = errors.New("the filter is not right")
	errDeep  = errors.New("too deep")
	errCount = errors.New("too many trees in it, or too few")
	errTree  = errors.New("something in it that this kind has not")
)

// noKind is a tag that no kind has.
type noKind struct{ tag int }

func (n noKind) Error() string { return "no kind's tag: " + strconv.Itoa(n.tag) }

// noBytes is what layer 2 said where no bytes are a tree's, or no tree has bytes.
type noBytes struct{ e api.Errno }

func (n noBytes) Error() string { return "no bytes: error " + strconv.Itoa(int(n.e)) }

// fault wraps what is wrong with the kind of the filter where it is.
type fault struct {
	kind int
	why  error
}

func (f fault) Error() string { return "in kind " + strconv.Itoa(f.kind) + ": " + f.why.Error() }

func (f fault) Unwrap() error { return f.why }

// errnoOf is the number of what is wrong, wrapped or not; OK, if nothing is.
func errnoOf(err error) api.Errno {
	var kind noKind
	var bytes noBytes
	switch {
	case errors.As(err, &kind), errors.As(err, &bytes):
		return api.ErrFilter
	case errors.Is(err, errRight), errors.Is(err, errDeep), errors.Is(err, errCount), errors.Is(err, errTree):
		return api.ErrFilter
	}
	return api.OK
}
