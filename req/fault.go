package req

import (
	"errors"
	"strconv"

	"latiner/api"
)

var (
	errField   = errors.New("a field that the operation does not use")
	errDn      = errors.New("no name's text")
	errLong    = errors.New("too many bytes")
	errValue   = errors.New("a value, though it has none")
	errMech    = errors.New("no mechanism's name, or one beside a password")
	errVersion = errors.New("another version")
	errRange   = errors.New("a number that is not allowed")
	errFilter  = errors.New("no right filter")
	errNames   = errors.New("too many names, or what is none")
	errChanges = errors.New("too many changes, or none, or a wrong one")
	errAttrs   = errors.New("too many attributes, or none, or a wrong one")
	errRdn     = errors.New("no text of a name of one part")
	errOid     = errors.New("no OID")
	errTree    = errors.New("something in a tree that it has not, or too little")
)

// noOp is an operation that is no request.
type noOp struct{ op int }

func (n noOp) Error() string { return "no request: operation " + strconv.Itoa(n.op) }

// noTree is a tag that no request has, or that is asked for where another tree stands, or none.
type noTree struct{ tag int }

func (n noTree) Error() string { return "no tree with the tag " + strconv.Itoa(n.tag) }

// refused is what a layer below said of what it was asked to read.
type refused struct{ e api.Errno }

func (r refused) Error() string { return "refused: error " + strconv.Itoa(int(r.e)) }

// fault wraps what is wrong with the operation where it is.
type fault struct {
	op  int
	why error
}

func (f fault) Error() string { return "in operation " + strconv.Itoa(f.op) + ": " + f.why.Error() }

func (f fault) Unwrap() error { return f.why }

// errnoOf is the number of what is wrong, wrapped or not; OK, if nothing is.
func errnoOf(err error) api.Errno {
	var op noOp
	var tree noTree
	var below refused
	switch {
	case errors.As(err, &op), errors.As(err, &tree), errors.As(err, &below):
		return api.ErrReq
	case errors.Is(err, errField), errors.Is(err, errDn), errors.Is(err, errLong), errors.Is(err, errValue):
		return api.ErrReq
	case errors.Is(err, errMech), errors.Is(err, errVersion), errors.Is(err, errRange), errors.Is(err, errFilter):
		return api.ErrReq
	case errors.Is(err, errNames), errors.Is(err, errChanges), errors.Is(err, errAttrs), errors.Is(err, errRdn):
		return api.ErrReq
	case errors.Is(err, errOid), errors.Is(err, errTree):
		return api.ErrReq
	}
	return api.OK
}
