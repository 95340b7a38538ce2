package utf

import (
	"errors"
	"strconv"

	"latiner/api"
)

var (
	errUtf  = errors.New("no sign's bytes begin so")
	errSafe = errors.New("a line can't hold this here")
)

// noSign is what is wrong with a number that is no sign.
type noSign struct{ n int }

func (e noSign) Error() string { return "no sign: " + strconv.Itoa(e.n) }

// fault wraps what is wrong with the place where it is seen.
type fault struct {
	at  int
	why error
}

func (f fault) Error() string { return "at " + strconv.Itoa(f.at) + ": " + f.why.Error() }

func (f fault) Unwrap() error { return f.why }

// placeOf is where something is wrong; -1, if nothing is.
func placeOf(err error) int {
	var f fault
	if errors.As(err, &f) {
		return f.at
	}
	return -1
}

// errnoOf is the number of what is wrong, wrapped or not; OK, if nothing is.
func errnoOf(err error) api.Errno {
	var none noSign
	if errors.As(err, &none) || errors.Is(err, errUtf) {
		return api.ErrUtf
	}
	return api.OK
}
