package size

import (
	"errors"
	"strconv"

	"latiner/api"
)

var (
	errShort = errors.New("bytes are missing")
	errForm  = errors.New("no length begins so")
)

// noLength is what is wrong with a number that is no length.
type noLength struct{ n int }

func (e noLength) Error() string { return "no length: " + strconv.Itoa(e.n) }

// fault wraps what is wrong with the place where reading began.
type fault struct {
	at  int
	why error
}

func (f fault) Error() string { return "at " + strconv.Itoa(f.at) + ": " + f.why.Error() }

func (f fault) Unwrap() error { return f.why }

// errnoOf is the number of what is wrong, wrapped or not.
func errnoOf(err error) api.Errno {
	var none noLength
	switch {
	case errors.As(err, &none):
		return api.ErrSize
	case errors.Is(err, errForm):
		return api.ErrForm
	default:
		return api.ErrShort
	}
}
