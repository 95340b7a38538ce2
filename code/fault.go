package code

import (
	"errors"
	"strconv"

	"latiner/api"
)

var (
	errCut  = errors.New("a group's signs miss")
	errEnd  = errors.New("signs behind the end")
	errBits = errors.New("bits that tell nothing are not 0")
)

// noSign is what is wrong with a sign that may not stand where it does.
type noSign struct{ sign rune }

func (e noSign) Error() string { return "no sign of the code here: " + strconv.QuoteRune(e.sign) }

// fault wraps what is wrong with the place where it is seen.
type fault struct {
	at  int
	why error
}

func (f fault) Error() string { return "at " + strconv.Itoa(f.at) + ": " + f.why.Error() }

func (f fault) Unwrap() error { return f.why }

// errnoOf is the number of what is wrong, wrapped or not; OK, if nothing is.
func errnoOf(err error) api.Errno {
	var none noSign
	if errors.As(err, &none) || errors.Is(err, errCut) || errors.Is(err, errEnd) || errors.Is(err, errBits) {
		return api.ErrCode
	}
	return api.OK
}
