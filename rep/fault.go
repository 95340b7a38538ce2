package rep

import (
	"errors"
	"strconv"

	"latiner/api"
)

var (
	errField  = errors.New("a field that the operation does not use")
	errResult = errors.New("no right result")
	errOid    = errors.New("no OID, or one where none may be")
	errLong   = errors.New("too many bytes")
	errValue  = errors.New("a value, though it has none")
	errDn     = errors.New("no name's text")
	errAttrs  = errors.New("too many attributes, or a wrong one")
	errRefs   = errors.New("too many references, or none, or a wrong one")
	errTree   = errors.New("something in a tree that it has not, or too little")
)

// noOp is an operation that is no response.
type noOp struct{ op int }

func (n noOp) Error() string { return "no response: operation " + strconv.Itoa(n.op) }

// noTree is a tag that no response's tree has.
type noTree struct{ tag int }

func (n noTree) Error() string { return "no response with the tag " + strconv.Itoa(n.tag) }

// refused is what layer 10 said of what it was asked to read.
type refused struct{ e api.Errno }

func (r refused) Error() string { return "refused: error " + strconv.Itoa(int(r.e)) }

// fault wraps what is wrong with the operation where it is.
type fault struct {
	op  int
	why error
}

func (f fault) Error() string { return "in operation " + strconv.Itoa(f.op) + ": " + f.why.Error() }

func (f fault) Unwrap() error { return f.why }

// errnoOf is the number of what is wrong, wrapped or not; OK, if nothing is.
func errnoOf(err error) api.Errno {
	var op noOp
	var tree noTree
	var below refused
	switch {
	case errors.As(err, &op), errors.As(err, &tree), errors.As(err, &below):
		return api.ErrRep
	case errors.Is(err, errField), errors.Is(err, errResult), errors.Is(err, errOid), errors.Is(err, errLong):
		return api.ErrRep
	case errors.Is(err, errValue), errors.Is(err, errDn), errors.Is(err, errAttrs), errors.Is(err, errRefs):
		return api.ErrRep
	case errors.Is(err, errTree):
		return api.ErrRep
	}
	return api.OK
}
