package tlv

import (
	"errors"
	"strconv"

	"latiner/api"
)

var (
	errShort = errors.New("bytes are missing")
	errTag   = errors.New("the tag goes on")
	errMore  = errors.New("more stands behind the tree")
	errNode  = errors.New("too many trees, or too deep")
	errKind  = errors.New("no tag, or not what it allows")
	errLarge = errors.New("too many bytes")
)

// noLength is what layer 1 said where no length is told.
type noLength struct{ e api.Errno }

func (n noLength) Error() string { return "no length: error " + strconv.Itoa(int(n.e)) }

// fault wraps what is wrong with the place where it is.
type fault struct {
	at  int
	why error
}

func (f fault) Error() string { return "at " + strconv.Itoa(f.at) + ": " + f.why.Error() }

func (f fault) Unwrap() error { return f.why }

// errnoOf is the number of what is wrong, wrapped or not.
func errnoOf(err error) api.Errno {
	var length noLength
	switch {
	case errors.As(err, &length):
		return length.e
	case errors.Is(err, errShort):
		return api.ErrShort
	case errors.Is(err, errTag):
		return api.ErrTag
	case errors.Is(err, errMore):
		return api.ErrForm
	default:
		return api.ErrNode
	}
}
